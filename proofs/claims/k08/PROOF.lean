import PyProof.Rows.All
import Wide.All
import OpenK.AllK
import Wide.FinOn
import HandS.Defaults
import HandS.Head0
import HandS.Head1
import HandS.Head2
import HandS.HeadEnd
import HandS.HeadHook1
import HandS.HeadHook2
import PyProof.StrLawsRepr
import PyProof.EqAt
import PyProof.EqKinds
import PyProof.TupleCall
import PyProof.ReprRoads
import KE.KExcIs
import HandS.ForMost
import HandS.Exc
import HandS.ExcInit
import HandS.ExcValue
import HandS.IsInst
import HandS.WordsExc
import HandS.SlotsOwn
import HandS.MakeKw
import HandS.MakeKwOnly
import KE.KCallOwn
import KE.KFmtOwn
import PyProof.Rows.StrMul
import KE.GoesEnum
import HandS.IterVal
import KE.KOwnIter
import HandS.RaiseMore
import HandS.More
import HandS.HeadHook3
import HandS.FStr
import HandS.ClsMeth
import HandS.Codes
import Wide.Once
import KE.KOpsOwn
import HandS.Star
import HandS.Property
import HandS.ExcOwn
import PyProof.ListMulRoad
import HandS.EndTab
import HandS.HeadWalk
import HandS.HeadNt
import KE.SortKeyHeap
import HandS.SortKw
import HandS.SetBool
import HandS.Strs
import HandS.SetKeys
import HandS.TupAny
import HandS.SetFor
import KE.DataCmp
import HandS.GenList
import HandS.Comp
import HandS.Words
import HandS.Style
import PySem.Challenge.RW_twoheads_k08_whole_bags
set_option Elab.async false
set_option linter.all false
set_option maxRecDepth 100000
set_option maxHeartbeats 8000000
/-! Tw, part 1: calls where no repr runs around; errors as values; errors kept behind their except suite. -/
namespace Tw
open PySem PySem.Spec PyProof.Rows L2

/-! ### no repr is running around -/
abbrev NoG (A : Around) : Prop := A.guards = some []
structure FnG (P : Program) (w : World) (K : PySem.W.Frag) (mg : Str → Option Value) (base : Heap) (CX : CXT) (k : Nat) (f : Addr) (fd : FuncData) (ps : List Str) (sp : Sp) : Prop where
  len : ∀ vs H Q E, sp vs H Q E → vs.length = ps.length
  run : ∀ (A : Around) (outer : List Env) (s : Shared) (H : Hp) (args : Args) (us : List Value) (vs : List V) (Q : VK) (E : XK), Room k A → NoG A → Env0 P w K mg base A outer s H →
    BindsTo s fd args (ps.zip us) → Vals vs us → sp vs H Q E → codeAny (model P w) A (.call (.ref f) args) (CR CX outer P w H s Q E) s
section
variable {P : Program} {w : World} {K : PySem.W.Frag} {mg : Str → Option Value} {base : Heap} {CX : CXT}
theorem FnG.of {k : Nat} {f : Addr} {fd : FuncData} {ps : List Str} {sp : Sp} (F : FnOk P w K mg base CX k f fd ps sp) : FnG P w K mg base CX k f fd ps sp :=
  ⟨F.len, fun A outer s H args us vs Q E hr _ => F.run A outer s H args us vs Q E hr⟩
theorem FnG.mono {j k : Nat} {f : Addr} {fd : FuncData} {ps : List Str} {sp : Sp} (F : FnG P w K mg base CX j f fd ps sp) (h : j ≤ k) : FnG P w K mg base CX k f fd ps sp :=
  ⟨F.len, fun A outer s H args us vs Q E hr => F.run A outer s H args us vs Q E (hr.mono h)⟩
/-- a def by its body, where no repr runs around -/
theorem fng {k : Nat} {f : Addr} {name qual : Str} {params : Arguments} {body : List Stmt} {scope : Scope} {dV kV doc pm cdv ct oc : Value} {an od : Option Addr} {osl : Array (Option Value)} {N ps : List Str} {sp : Sp}
    (lk : K.lookup f = some ⟨oc, od, .func (PySem.W.fnOf name qual params body scope dV kV doc pm an cdv ct), osl⟩) (hcd : PySem.W.codeIn K cdv qual = true) (S : FnScope N ps scope) (len : ∀ vs H Q E, sp vs H Q E → vs.length = ps.length)
    (hbody : ∀ (A : Around) (outer : List Env) (s : Shared) (H : Hp) (vs : List V) (Q : VK) (E : XK), Room k (A.deeper (envOfC qual scope s.heap.objs.size f cdv)) → NoG (A.deeper (envOfC qual scope s.heap.objs.size f cdv)) → sp vs H Q E →
      ∃ t, PSs (cxOf CX P w K mg base N qual scope f cdv A outer s H E) body t ∧ t { nx := fun _ H' => Q .non H', rt := Q } (start N vs) H) :
    FnG P w K mg base CX (k + 1) f (PySem.W.fnOf name qual params body scope dV kV doc pm an cdv ct) ps sp := by
  refine ⟨len, fun A outer s H args us vs Q E hr hg e0 hb r hsp => ?_⟩
  have at0 : ∀ b o, base.get? b = some o → s.heap.get? b = some o := fun b o e => (e0.bs b o e).1
  have hkind : ∀ y ∈ ps.zip us, scope.names.lookup y.1 = some .local ∨ (scope.names.lookup y.1 = some .cell ∧ ((cellsFrom (s.heap.objs.size + 1) scope.names []).lookup y.1).isSome = true) := by
    rintro ⟨n, v⟩ hy
    rcases S.par n (List.of_mem_zip hy).1 with q | q
    · exact .inl q
    · exact .inr ⟨q, PySem.W.cellsFrom_some _ _ _ (.inl q)⟩
  refine codeAny_call_function hr.depth ((e0.mod.kin.keeps at0) _ _ lk) rfl S.co S.gen rfl (PySem.W.codeRec_of (e0.mod.kin.keeps at0) hcd) (hb _ _ _ _ ?_)
  refine wpAny_newFunctionEnv_cells S.kind hkind fun env he s1 x => ?_
  subst he
  refine ⟨(e0.mod.nolimit.keeps at0).keeps x.toInCall.keep, codeAny_func ?_⟩
  obtain ⟨t, ht, hq⟩ := hbody A outer s H vs Q E (hr.deeper _) hg hsp
  refine wpAny_mono (ht.run [] s1 (start N vs) H _ (inv_start S hr.hd e0 (len _ _ _ _ hsp) r x) hq) (fun fl s' hs => ?_) fun e s' hs => hs
  cases fl with
  | ret u =>
    obtain ⟨v, σ', H', J, rv, q⟩ := hs
    exact ⟨v, H', J.os, J.bare, J.base, J.hok, rv, q⟩
  | next =>
    obtain ⟨σ', H', J, q⟩ := hs
    exact ⟨.non, H', J.os, J.bare, J.base, J.hok, rfl, q⟩
  | brk => exact hs.elim fun _ z => z.elim fun _ z => z.2.elim
  | cont => exact hs.elim fun _ z => z.elim fun _ z => z.2.elim
/-- the same for a def as the text has it -/
theorem _root_.L2.Fun.okG {x qual : Str} {st : Stmt} {f : Addr} {fd : FuncData} {N ps : List Str} {k : Nat} {sp : Sp} (F : Fun K x qual st f fd) (S : FnScope N ps (defScope st)) (len : ∀ vs H Q E, sp vs H Q E → vs.length = ps.length)
    (hbody : ∀ (cdv : Value) (A : Around) (outer : List Env) (s : Shared) (H : Hp) (vs : List V) (Q : VK) (E : XK), Room k (A.deeper (envOfC qual (defScope st) s.heap.objs.size f cdv)) → NoG (A.deeper (envOfC qual (defScope st) s.heap.objs.size f cdv)) → sp vs H Q E →
      ∃ t, PSs (cxOf CX0 P w K mg base N qual (defScope st) f cdv A outer s H E).nox (defBody st) t ∧ t { nx := fun _ H' => Q .non H', rt := Q } (start N vs) H) : FnG P w K mg base CX0 (k + 1) f fd ps sp := by
  obtain ⟨oc, od, kV, doc, pm, an, cdv, ct, osl, rfl, lk, hcd⟩ := F.ex
  refine fng lk hcd S len fun A outer s H vs Q E hr hg hsp => ?_
  obtain ⟨t, h, q⟩ := hbody cdv A outer s H vs Q E hr hg hsp
  exact ⟨t, h.nox, q⟩
end
section
variable {X : Cx} {CX : CXT} {k : Nat} {f : Addr} {fd : FuncData} {ps : List Str} {sp : Sp} {dvs : List V} {ds : List Value} {E : XK} {x : Str} {p pos : Pos} {e : Expr} {es : List Expr} {t : TA}
theorem run_fnG {pins : List (Addr × Obj)} {σ : L2.St} {H : Hp} {s : Shared} {Q : VK} {us : List Value} {vs : List V} (F : FnG X.prog X.w X.K X.mg X.base CX k f fd ps sp) (hr : Room k X.A) (hG : NoG X.A) (hb : Binds X.K fd ps ds) (hd : Vals dvs ds) (hx : Passes CX X E)
    (I : Inv X pins σ H s) (r : Vals vs us) (h : sp (vs ++ dvs) H Q E) : wpAny (model X.prog X.w) X.A (call (.ref f) us) (EP X pins σ Q) X.xe s := by
  have r2 : Vals (vs ++ dvs) (us ++ ds) := r.append hd
  have hl : (us ++ ds).length = ps.length := r2.length.symm.trans (F.len _ _ _ _ h)
  refine wpAny_call (codeAny_mono (F.run X.A X.stack s H ⟨us, []⟩ (us ++ ds) (vs ++ dvs) Q E hr hG I.env0 (hb s us I.kIn hl) r2 h) fun r s' hq => ?_)
  match r, hq with
  | .error e, hq => exact hx pins σ H s e s' I hq
  | .ok (.ret u), hq => exact I.after hq
/-- f(e, ..) -/
theorem pe_callG (F : FnG X.prog X.w X.K X.mg X.base CX k f fd ps sp) (hr : Room k X.A) (hG : NoG X.A) (hg : Gl X x) (hm : X.mg x = some (.ref f)) (hk : PySem.W.keepIn X.K (.ref f) = true) (hb : Binds X.K fd ps ds) (hd : Vals dvs ds) (hx : Passes CX X E)
    (ha : PA X (e :: es) t) (hdb : (x == ("__debug__" : Str)) = false := by decide) (he : starEach (e :: es) X.env = (false, eval e X.env) :: starEach es X.env := by rfl) (hpl : (backTo pos (starEach es X.env)).any (·.1) = false := by rfl) :
    PE X (.Call (.Name x p) (e :: es) [] pos) (tCall sp dvs E t) :=
  ⟨fun pins s σ H Q I h => wpAny_Call_Name_kw (ld_glob I hg hm (PySem.W.callWith_K (h₀ := X.base) I.ok.mod.kin hk (thn (ha.run pos pins s σ H _ I h) fun us s1 ⟨vs, H1, I1, r, q⟩ => ⟨I1.kIn, run_fnG F hr hG hb hd hx I1 r q⟩) he hpl) hdb)⟩
end
end Tw

/-! ### the law's end -/
namespace Tw
open PySem PySem.Spec PyProof.Rows L2
theorem law_endG {P : Program} {w : World} {K : PySem.W.Frag} {mg mb : Str → Option Value} {CX : CXT} {k : Nat} {fa a : Addr} {fd : FuncData} {x : Str} {sp : Sp} {s : Shared} {vs : List Value} {ns : List Int}
    (KX : K.In s.heap) (hns : s.heap.Ns mainGlobals mg) (hb : s.heap.Ns builtinsNs mb) (hbb : ∀ x : Str, x ≠ "__name__" → mb x = bootBuiltins x) (hlim : s.heap.NoLimit) (hg : s.gens = #[])
    (ha : s.heap.get? a = some { cls := .type "list", data := .seq vs.toArray }) (hi : IntsAre vs ns) (hl : ns.length ≤ sizeLine) (hr : Room k callerA)
    (F : ∀ base : Heap, K.In base → base.Ns mainGlobals mg → FnG P w K mg base CX k fa fd [x] sp) (hbind : ∀ (s : Shared) (u : Value), BindsTo s fd ⟨[u], []⟩ [(x, u)])
    (hsp : ∀ H : Hp, Only H → SqL K H a (ns.map V.int) → sp [.ref a] H (fun v _ => v = .bl true) fun _ _ _ => False)
    (hCX : ∀ H e s', CX [] H s (fun _ _ _ => False) e s' → False) :
    codeAny (model P w) callerA (.call (.ref fa) ⟨[.ref a], []⟩) (fun r s' => r = .ok (.ret (.bool true)) ∧ OldK s.heap s'.heap ∧ s'.os = s.os ∧ AllBare s'.gens) s := by
  have rv := vals_ints hi
  have lv := hi.length
  have go : ∀ H : Hp, Only H → SqL K H a (ns.map V.int) → HOk P w H s.heap → (∀ b, H b ≠ none → b = a) → (H a ≠ none → K.lookup a = none) →
      codeAny (model P w) callerA (.call (.ref fa) ⟨[.ref a], []⟩) (fun r s' => r = .ok (.ret (.bool true)) ∧ OldK s.heap s'.heap ∧ s'.os = s.os ∧ AllBare s'.gens) s := by
    intro H hO hS hok hA hK
    have none_of : ∀ {b : Addr}, b ≠ a → H b = none := fun {b} hb => by
      cases q : H b with
      | none => rfl
      | some u => exact absurd (hA b (by rw [q]; exact Option.some_ne_none u)) hb
    have noD : ∀ {b : Addr} {o : Obj} {es : Array DictEntry} {ep : Nat}, s.heap.get? b = some o → o.data = .dict es ep → H b = none := fun {b o es ep} e d => none_of fun z => by
      rw [z, ha] at e
      have e2 := Option.some.inj e
      rw [← e2] at d
      cases d
    have nsK : ∀ {b : Addr} {m : Str → Option Value}, s.heap.Ns b m → (hidT s.heap H).Ns b m := fun {b m} ⟨o, es, ep, e, d, r⟩ => ⟨o, es, ep, hidT_get e (noD e d), d, r⟩
    have hKb : K.In (hidT s.heap H) := fun b o e => hidT_get (KX b o e) (by
      by_cases hb : b = a
      · cases q : H b with
        | none => rfl
        | some u =>
          subst hb
          have z := hK (by rw [q]; exact Option.some_ne_none u)
          rw [z] at e
          cases e
      · exact none_of hb)
    have hM : Mod K mg (hidT s.heap H) := ⟨hKb, nsK hns, ⟨mb, nsK hb, hbb⟩, hlim.elim fun mc z => ⟨mc, nsK z.1, z.2⟩⟩
    have e0 : Env0 P w K mg (hidT s.heap H) callerA [] s H := ⟨rfl, hM, fun b o e => of_hidT e, Nat.le_of_eq (hidT_size _ _), trivial, (fun b hb => nomatch hb), hok, .of_eq hg⟩
    refine codeAny_mono ((F _ hKb (nsK hns)).run callerA [] s H ⟨[.ref a], []⟩ [.ref a] [.ref a] _ _ hr rfl e0 (hbind s (.ref a)) (.cons rfl .nil) (hsp H hO hS)) fun r s' h => ?_
    match r, h with
    | .error e, h => exact (hCX H e s' h).elim
    | .ok (.ret u), h =>
      obtain ⟨v, H', os, bare, un, hok', rv', q⟩ := h
      have q' : v = .bl true := q
      subst q'
      obtain rfl : u = Value.bool true := rv'
      refine ⟨rfl, OldK.of_keep fun b o e => ?_, os, bare⟩
      cases q : H b with
      | none => exact un.keep b o e q (fun z => nomatch z) (fun z => nomatch z)
      | some u =>
        rcases hO b with z | ⟨ob, xs, z⟩
        · rw [q] at z
          cases z
        · obtain ⟨e1, _⟩ := hok b _ z
          obtain ⟨e2, _⟩ := hok' b _ (un.frzs b ob _ z)
          rw [e] at e1
          cases e1
          exact e2
  cases hk : K.lookup a with
  | some o =>
    have e := KX a o hk
    rw [ha] at e
    cases e
    exact go (fun _ => none) (fun _ => .inl rfl) (.inr ⟨_, vs.toArray, _, hk, rfl, rfl, rfl, by rw [List.size_toArray, lv]; exact hl, by simpa using rv⟩) (fun b u z => nomatch z) (fun b z => absurd rfl z) fun z => absurd rfl z
  | none =>
    have at1 : (fun b => if b = a then some (HO.frz { cls := .type "list", data := .seq vs.toArray } (.lst (ns.map V.int))) else none : Hp) a = some (HO.frz { cls := .type "list", data := .seq vs.toArray } (.lst (ns.map V.int))) := if_pos rfl
    refine go (fun b => if b = a then some (.frz { cls := .type "list", data := .seq vs.toArray } (.lst (ns.map V.int))) else none) (fun b => ?_) (.inl (.inr ⟨_, at1⟩)) (fun b u z => ?_) (fun b z => ?_) fun _ => hk
    · by_cases hb : b = a
      · exact .inr ⟨_, _, if_pos hb⟩
      · exact .inl (if_neg hb)
    · by_cases hb : b = a
      · subst hb
        rw [at1] at z
        cases z
        exact ⟨ha, by rw [List.length_map]; exact hl, vs, _, rv, ha⟩
      · have z' := (if_neg hb).symm.trans z
        cases z'
    · by_cases hb : b = a
      · exact hb
      · exact absurd (if_neg hb) z
theorem walk_ofG {l : PySem.W.OpenLaw} {n k : Nat} {q : Program} {loose : List Str} {XP : (Str → Option Value) → Heap → Prop} {YP : World → Heap → Prop} {d : DefRec} {K : Params → PySem.W.Frag} {CX : World → CXT} {sp : World → Sp} {x : Str}
    (hn : l.most = some n) (hn2 : n ≤ sizeLine) (hdf : d.params.defaults = []) (hr : Room k callerA) (hY : ∀ (w : World) (h : Heap), YP w h → (K w.params).In h)
    (F : ∀ (w : World) (mg : Str → Option Value) (fa : Addr) (h : Heap), (K w.params).In h → h.Ns mainGlobals mg → mg d.name = some (.ref fa) →
      ∃ fd : FuncData, (∀ (s : Shared) (u : Value), BindsTo s fd ⟨[u], []⟩ [(x, u)]) ∧ ∀ base : Heap, (K w.params).In base → base.Ns mainGlobals mg → FnG l.prog w (K w.params) mg base (CX w) k fa fd [x] (sp w))
    (hsp : ∀ (w : World) (H : Hp) (a : Addr) (ns : List Int), ns.length ≤ n → Only H → SqL (K w.params) H a (ns.map V.int) → sp w [.ref a] H (fun v _ => v = .bl true) fun _ _ _ => False)
    (hCX : ∀ (w : World) (H : Hp) (s : Shared) (e : Value) (s' : Shared), CX w [] H s (fun _ _ _ => False) e s' → False) :
    PySem.W.WalkO q loose XP YP l.row.toRowW d [] (fun f vs => PySem.call f vs) := by
  refine Att.attach_call hn hdf fun w s₀ s₁ mg mb fa o pm cd doc a vs ns G Y ho hd hcd hmg hobj hints hlen hg => ?_
  obtain ⟨fd, hb, hF⟩ := F w mg fa _ (hY w _ Y) G.T.g hmg
  exact law_endG (hY w _ Y) G.T.g G.T.b G.T.builtins G.T.nolimit hg hobj hints (Nat.le_trans hlen hn2) hr hF hb (fun H hO hS => hsp w H a ns hlen hO hS) fun H e s' => hCX w H s₁ e s'
end Tw
/-! Tw, part 2: repr of data. -/
namespace Tw
open PySem PySem.Spec PyProof.Rows L2

/-! ### how long a repr may be -/
mutual
def cap : PyData → Nat
  | .none => 4
  | .bool _ => 5
  | .int _ => 1921
  | .str x => 10 * x.length + 2
  | .list xs => 2 + capAll xs
  | .tuple xs => 3 + capAll xs
  | .dict kvs => 2 + capKv kvs
def capAll : List PyData → Nat
  | [] => 0
  | x :: xs => cap x + 2 + capAll xs
def capKv : List (PyData × PyData) → Nat
  | [] => 0
  | (k, v) :: r => cap k + 4 + cap v + capKv r
end
mutual
/-- ints of moderate size, texts of plain signs -/
def mild : PyData → Bool
  | .none | .bool _ => true
  | .int i => decide (i.natAbs.log2 < 1920)
  | .str x => x.cps.toList.all fun c => decide (c < 16 ^ 8)
  | .list xs | .tuple xs => mildAll xs
  | .dict kvs => mildKv kvs
def mildAll : List PyData → Bool
  | [] => true
  | x :: xs => mild x && mildAll xs
def mildKv : List (PyData × PyData) → Bool
  | [] => true
  | (k, v) :: r => mild k && (mild v && mildKv r)
end
mutual
theorem mild_show : ∀ d : PyData, mild d = true → d.showable = true
  | .none, _ => rfl
  | .bool _, _ => rfl
  | .str _, _ => rfl
  | .int i, h => by simpa [mild, PyData.showable] using h
  | .list xs, h => by
    simp only [PyData.showable]
    exact mild_showAll xs (by simpa [mild] using h)
  | .tuple xs, h => by
    simp only [PyData.showable]
    exact mild_showAll xs (by simpa [mild] using h)
  | .dict kvs, h => by
    simp only [PyData.showable]
    exact mild_showKv kvs (by simpa [mild] using h)
theorem mild_showAll : ∀ xs : List PyData, mildAll xs = true → PyData.showableAll xs = true
  | [], _ => rfl
  | x :: xs, h => by
    have h2 := Bool.and_eq_true_iff.mp (show (mild x && mildAll xs) = true by simpa [mildAll] using h)
    simp only [PyData.showableAll, mild_show x h2.1, mild_showAll xs h2.2, Bool.and_self]
theorem mild_showKv : ∀ kvs : List (PyData × PyData), mildKv kvs = true → PyData.showableKv kvs = true
  | [], _ => rfl
  | (k, v) :: r, h => by
    have h2 := Bool.and_eq_true_iff.mp (show (mild k && (mild v && mildKv r)) = true by simpa [mildKv] using h)
    have h3 := Bool.and_eq_true_iff.mp h2.2
    simp only [PyData.showableKv, mild_show k h2.1, mild_show v h3.1, mild_showKv r h3.2, Bool.and_self]
end
theorem textFrom_le : ∀ (ts : List Str) (k : Nat) (acc : Str), (textFrom k acc ts).length ≤ acc.length + piled ts
  | [], k, acc => by
    show acc.length ≤ acc.length + _
    omega
  | t :: r, k, acc => by
    have ih := textFrom_le r (k + 1) (acc ++ (if k > 0 then ", " else "" : String) ++ t)
    rw [piled_cons]
    show (textFrom (k + 1) (acc ++ (if k > 0 then ", " else "" : String) ++ t) r).length ≤ _
    rw [strLen_append, strLen_append] at ih
    have e : (Str.ofString (if k > 0 then ", " else "" : String)).length ≤ 2 := by
      by_cases hk : k > 0
      · rw [if_pos hk]; decide
      · rw [if_neg hk]; decide
    have e' : ((if k > 0 then ", " else "" : String) : Str).length ≤ 2 := e
    omega
theorem join_le (ts : List Str) : (Str.join ", " ts).length ≤ piled ts := by
  by_cases h : ts = []
  · subst h
    decide
  · have := join_length_add ts h
    omega
theorem piled_le : ∀ (xs : List PyData) (ts : List Str), ts.length = xs.length → (∀ (i : Nat) (x : PyData) (t : Str), xs[i]? = some x → ts[i]? = some t → t.length ≤ cap x) → piled ts ≤ capAll xs
  | [], [], _, _ => Nat.le_refl _
  | x :: xs, t :: ts, hl, h => by
    have h1 := h 0 x t rfl rfl
    have h2 := piled_le xs ts (by simpa using hl) fun i y u e1 e2 => h (i + 1) y u (by simpa using e1) (by simpa using e2)
    rw [piled_cons]
    simp only [capAll]
    omega
  | [], _ :: _, hl, _ => by simp at hl
  | _ :: _, [], hl, _ => by simp at hl
mutual
theorem shown_le : ∀ d : PyData, mild d = true → d.shown.length ≤ cap d
  | .none, _ => by simp only [PyData.shown, cap]; decide
  | .bool b, _ => by
    simp only [PyData.shown, cap]
    cases b <;> decide
  | .int i, h => by
    have h2 : i.natAbs.log2 < 1920 := by simpa [mild] using h
    have e := int_text_length_le (a := i) (k := 1920) (by decide) h2
    simp only [PyData.shown, cap]
    show (Str.ofString (toString i)).length ≤ 1921
    rw [PySem.ofString_length]
    exact e
  | .str x, h => by
    simp only [PyData.shown, cap]
    exact PySem.StrLaws.reprText_len x fun c hc => of_decide_eq_true (List.all_eq_true.mp (show (x.cps.toList.all fun c => decide (c < 16 ^ 8)) = true by simpa [mild] using h) c hc)
  | .list xs, h => by
    have h2 := shownAll_le xs (by simpa [mild] using h)
    simp only [PyData.shown, cap]
    have e := textFrom_le (PyData.shownAll xs) 0 "["
    unfold listText
    rw [strLen_append]
    have e1 : ("[" : Str).length = 1 := by decide
    have e2 : ("]" : Str).length = 1 := by decide
    omega
  | .tuple xs, h => by
    have h2 := shownAll_le xs (by simpa [mild] using h)
    simp only [PyData.shown, cap]
    have e := join_le (PyData.shownAll xs)
    unfold tupleText
    rw [strLen_append, strLen_append]
    have e1 : ("(" : Str).length = 1 := by decide
    have e2 : ((if (PyData.shownAll xs).length == 1 then ",)" else ")" : String) : Str).length ≤ 2 := by
      cases (PyData.shownAll xs).length == 1 <;> decide
    omega
  | .dict kvs, h => by
    have h2 := shownKv_le kvs (by simpa [mild] using h)
    simp only [PyData.shown, cap]
    have e := join_le (PyData.shownKv kvs)
    unfold dictText
    rw [strLen_append, strLen_append]
    have e1 : ("{" : Str).length = 1 := by decide
    have e2 : ("}" : Str).length = 1 := by decide
    omega
theorem shownAll_le : ∀ xs : List PyData, mildAll xs = true → piled (PyData.shownAll xs) ≤ capAll xs
  | [], _ => by simp only [PyData.shownAll, capAll]; decide
  | x :: xs, h => by
    have h2 := Bool.and_eq_true_iff.mp (show (mild x && mildAll xs) = true by simpa [mildAll] using h)
    have a := shown_le x h2.1
    have b := shownAll_le xs h2.2
    simp only [PyData.shownAll, capAll, piled_cons]
    omega
theorem shownKv_le : ∀ kvs : List (PyData × PyData), mildKv kvs = true → piled (PyData.shownKv kvs) ≤ capKv kvs
  | [], _ => by simp only [PyData.shownKv, capKv]; decide
  | (k, v) :: r, h => by
    have h2 := Bool.and_eq_true_iff.mp (show (mild k && (mild v && mildKv r)) = true by simpa [mildKv] using h)
    have h3 := Bool.and_eq_true_iff.mp h2.2
    have a := shown_le k h2.1
    have b := shown_le v h3.1
    have c := shownKv_le r h3.2
    simp only [PyData.shownKv, capKv, piled_cons]
    rw [strLen_append, strLen_append]
    have e1 : (": " : Str).length = 2 := by decide
    omega
end

/-! ### data in the abstract heap, with flat dicts -/
def keyD : Key → PyData
  | .inl i => .int i
  | .inr x => .str x
mutual
inductive Dx (K : PySem.W.Frag) (H : Hp) : V → PyData → Prop
  | non : Dx K H .non .none
  | bl (b : Bool) : Dx K H (.bl b) (.bool b)
  | int (i : Int) : Dx K H (.int i) (.int i)
  | str (x : Str) : Dx K H (.str x) (.str x)
  | lst {a : Addr} {xs : List V} {ds : List PyData} : SqL K H a xs → a ≠ sysModules → DxAll K H xs ds → Dx K H (.ref a) (.list ds)
  | tup {a : Addr} {xs : List V} {ds : List PyData} : SqT K H a xs → DxAll K H xs ds → Dx K H (.ref a) (.tuple ds)
  | dic {a : Addr} {kvs : List (Key × V)} {ds : List PyData} : H a = some (.dK kvs) → DxAll K H (kvs.map (·.2)) ds → Dx K H (.ref a) (.dict ((kvs.map fun p => keyD p.1).zip ds))
inductive DxAll (K : PySem.W.Frag) (H : Hp) : List V → List PyData → Prop
  | nil : DxAll K H [] []
  | cons {v : V} {vs : List V} {d : PyData} {ds : List PyData} : Dx K H v d → DxAll K H vs ds → DxAll K H (v :: vs) (d :: ds)
end
section
variable {X : Cx} {pins : List (Addr × Obj)} {σ : L2.St} {H : Hp} {s : Shared}
theorem DxAll.len : ∀ {vs : List V} {ds : List PyData}, DxAll X.K H vs ds → vs.length = ds.length
  | [], _, .nil => rfl
  | _ :: _, _, .cons _ t => by
    have := DxAll.len t
    simp [this]
theorem readsAll_keys {h : Heap} : ∀ {kvs : List (Key × V)} {ws : List (Key × Value)} {es : List DictEntry}, KV kvs ws → Pairs (mixKind X.prog X.w) es ws → ReadsAll h (es.map (·.key)) (kvs.map fun p => keyD p.1) []
  | [], _, _, .nil, .nil => .nil
  | (k, v) :: kvs, (k', u) :: ws, e :: es, .cons r t, .cons a b q => by
    obtain ⟨r1, r2⟩ := r
    have ih := readsAll_keys (h := h) t q
    have hk : keyIs k' e.key = true := a
    have r1' : k = k' := r1
    subst r1'
    rcases keyIs_shape hk with ⟨i, tk, e1, e2⟩ | ⟨x, tk, e1, e2⟩
    · subst e1
      show ReadsAll h (e.key :: es.map (·.key)) (PyData.int i :: _) ([] ++ [])
      rw [e2]
      exact .cons (.int i tk) ih
    · subst e1
      show ReadsAll h (e.key :: es.map (·.key)) (PyData.str x :: _) ([] ++ [])
      rw [e2]
      exact .cons (.str x tk) ih
theorem vals_of_pairs : ∀ {kvs : List (Key × V)} {ws : List (Key × Value)} {es : List DictEntry}, KV kvs ws → Pairs (mixKind X.prog X.w) es ws → Vals (kvs.map (·.2)) (es.map (·.val))
  | [], _, _, .nil, .nil => .nil
  | (k, v) :: kvs, (k', u) :: ws, e :: es, .cons r t, .cons a b q => by
    obtain ⟨r1, r2⟩ := r
    refine .cons ?_ (vals_of_pairs t q)
    have b' : e.val = u := b
    show RelV v e.val
    rw [b']
    exact r2
theorem map_fst_zip' {α β : Type} : ∀ {l : List α} {m : List β}, l.length = m.length → (l.zip m).map (·.1) = l
  | [], [], _ => rfl
  | _ :: l, _ :: m, h => by
    have := map_fst_zip' (l := l) (m := m) (by simpa using h)
    simp [this]
  | [], _ :: _, h => by simp at h
  | _ :: _, [], h => by simp at h
theorem map_snd_zip' {α β : Type} : ∀ {l : List α} {m : List β}, l.length = m.length → (l.zip m).map (·.2) = m
  | [], [], _ => rfl
  | _ :: l, _ :: m, h => by
    have := map_snd_zip' (l := l) (m := m) (by simpa using h)
    simp [this]
  | [], _ :: _, h => by simp at h
  | _ :: _, [], h => by simp at h
mutual
theorem Dx.reads (I : Inv X pins σ H s) : ∀ {v : V} {d : PyData} {u : Value}, Dx X.K H v d → RelV v u → ∃ as, Reads s.heap u d as ∧ sysModules ∉ as
  | _, _, _, .non, r => by
    cases r
    exact ⟨_, Reads.none, fun z => nomatch z⟩
  | _, _, _, .bl b, r => by
    cases r
    exact ⟨_, Reads.bool b, fun z => nomatch z⟩
  | _, _, _, .int i, r => by
    obtain ⟨t, rfl⟩ := r
    exact ⟨_, Reads.int i t, fun z => nomatch z⟩
  | _, _, _, .str x, r => by
    obtain ⟨t, rfl⟩ := r
    exact ⟨_, Reads.str x t, fun z => nomatch z⟩
  | _, _, _, .lst (a := a) hs hne ha, r => by
    cases r
    obtain ⟨its, rv, ⟨o, n, ho, hc, _, hd⟩, _⟩ := I.list hs
    obtain ⟨as, hr, hn⟩ := DxAll.reads I ha rv
    refine ⟨_, Reads.list ho hc hd hr, fun z => ?_⟩
    rcases List.mem_cons.mp z with z | z
    · exact hne z.symm
    · exact hn z
  | _, _, _, .tup hs ha, r => by
    cases r
    obtain ⟨its, rv, ⟨o, ho, hc, n, hd⟩, _⟩ := I.tuple hs
    obtain ⟨as, hr, hn⟩ := DxAll.reads I ha rv
    exact ⟨_, Reads.tuple ho hc hd hr, hn⟩
  | _, _, _, .dic (kvs := kvs) hs ha, r => by
    cases r
    obtain ⟨_, hsys, ws, hkv, o, es, ep, ho, hx, hd, _, hp, _⟩ := I.hok _ _ hs
    have hl := DxAll.len (X := X) ha
    have rv := vals_of_pairs (X := X) hkv hp
    obtain ⟨as, hr, hn⟩ := DxAll.reads I ha rv
    have hk := readsAll_keys (h := s.heap) hkv hp
    refine ⟨_, Reads.dict ho hx.1 hd (as := []) (bs := as) (by rw [map_fst_zip' (by rw [List.length_map, ← hl, List.length_map])]; exact hk) (by rw [map_snd_zip' (by rw [List.length_map, ← hl, List.length_map])]; exact hr), fun z => ?_⟩
    rcases List.mem_cons.mp (by simpa using z) with z | z
    · rw [← z] at hsys
      simp at hsys
    · exact hn z
theorem DxAll.reads (I : Inv X pins σ H s) : ∀ {vs : List V} {ds : List PyData} {us : List Value}, DxAll X.K H vs ds → Vals vs us → ∃ as, ReadsAll s.heap us ds as ∧ sysModules ∉ as
  | _, _, _, .nil, .nil => ⟨_, .nil, fun z => nomatch z⟩
  | _, _, _, .cons h t, .cons r q => by
    obtain ⟨as, h1, n1⟩ := Dx.reads I h r
    obtain ⟨bs, h2, n2⟩ := DxAll.reads I t q
    exact ⟨_, .cons h1 h2, fun z => (List.mem_append.mp z).elim n1 n2⟩
end
end
end Tw

/-! ### the rules -/
namespace Tw
open PySem PySem.Spec PyProof.Rows L2
theorem boot_repr : bootBuiltins "repr" = some (.builtin "repr") := by decide +kernel
section
variable {X : Cx}
/-- repr(x), x a list or a tuple of data -/
def rRepr (K : PySem.W.Frag) : List V → Hp → VK → Prop := fun xs H Q => ∃ (a : Addr) (d : PyData), xs = [.ref a] ∧ Dx K H (.ref a) d ∧ mild d = true ∧ d.depth ≤ 64 ∧ cap d ≤ 16777216 ∧ Q (.str d.shown) H
theorem call_repr (hG : NoG X.A) (hu : X.A.units + 70 < cLine) : CallR X (.builtin "repr") (rRepr X.K) := by
  intro pins s σ H xs us Q I r h
  obtain ⟨a, d, rfl, hd, hm, hdp, hc, q⟩ := h
  obtain ⟨u, rfl, ru⟩ := vals1 r
  obtain ⟨as, hr, hn⟩ := Dx.reads I hd ru
  cases (show u = Value.ref a from ru)
  exact repr_of_reads' hr (mild_show d hm) (fun _ => hn) hG (by omega) (fun _ _ e => e) (fun h' u tk hk => ⟨.str d.shown, H, I.kept (t' := tk) hk, ⟨_, rfl⟩, q⟩) (Nat.le_trans (shown_le d hm) (by rw [sizeLine_eq]; exact hc))
mutual
theorem dp_reads {pins : List (Addr × Obj)} {σ : L2.St} {H : Hp} {s : Shared} (I : Inv X pins σ H s) : ∀ {v : V} {d : PyData}, Dp X.K H v d → d.hasDict = false
  | _, _, .non => by simp only [PyData.hasDict]
  | _, _, .bl _ => by simp only [PyData.hasDict]
  | _, _, .int _ => by simp only [PyData.hasDict]
  | _, _, .str _ => by simp only [PyData.hasDict]
  | _, _, .lst _ ha => by
    simp only [PyData.hasDict]
    exact dpAll_reads I ha
  | _, _, .tup _ ha => by
    simp only [PyData.hasDict]
    exact dpAll_reads I ha
theorem dpAll_reads {pins : List (Addr × Obj)} {σ : L2.St} {H : Hp} {s : Shared} (I : Inv X pins σ H s) : ∀ {vs : List V} {ds : List PyData}, DpAll X.K H vs ds → PyData.hasDictAll ds = false
  | _, _, .nil => by simp only [PyData.hasDictAll]
  | _, _, .cons h t => by simp only [PyData.hasDictAll, dp_reads I h, dpAll_reads I t, Bool.or_self]
end
def rReprD (K : PySem.W.Frag) : List V → Hp → VK → Prop := fun xs H Q => ∃ (a : Addr) (d : PyData), xs = [.ref a] ∧ Dp K H (.ref a) d ∧ mild d = true ∧ d.depth ≤ 64 ∧ cap d ≤ 16777216 ∧ Q (.str d.shown) H
theorem call_reprD (hG : NoG X.A) (hu : X.A.units + 70 < cLine) : CallR X (.builtin "repr") (rReprD X.K) := by
  intro pins s σ H xs us Q I r h
  obtain ⟨a, d, rfl, hd, hm, hdp, hc, q⟩ := h
  obtain ⟨u, rfl, ru⟩ := vals1 r
  obtain ⟨as, hr⟩ := Dp.reads I d _ u hd ru
  cases (show u = Value.ref a from ru)
  exact repr_of_reads' hr (mild_show d hm) (PyData.noDict_hsm (dp_reads I hd)) hG (by omega) (fun _ _ e => e) (fun h' u tk hk => ⟨.str d.shown, H, I.kept (t' := tk) hk, ⟨_, rfl⟩, q⟩) (Nat.le_trans (shown_le d hm) (by rw [sizeLine_eq]; exact hc))
/-! ### lists that are known to stand elsewhere than the table of modules -/
variable {es : List Expr} {t : TA} {pos : Pos}
def tLstB (t : TA) : TE := fun σ H Q => t σ H fun xs H1 => xs.length ≤ sizeLine ∧ ∀ p, H1 p = none → p ≠ sysModules → Q (.ref p) (upd H1 p (.lst xs))
theorem pe_lstB (h : PA X es t) : PE X (.List es pos) (tLstB t) := by
  refine ⟨fun pins s σ H Q I hq => wpAny_List_spliced (thn (h.run pos pins s σ H _ I hq) fun us s1 ⟨xs, H1, I1, r, z, q⟩ => ⟨by rw [← r.length]; exact z, ?_⟩)⟩
  exact ⟨.ref s1.heap.objs.size, upd H1 s1.heap.objs.size (.lst xs), I1.laid (t' := s1.toks) (fun b u e => Heap.get?_push_of_some _ e) (Nat.le_refl _) ⟨z, us, 0, r, Heap.get?_push_size _ rfl⟩, rfl, q _ (I1.hok.fresh (Nat.le_refl _)) (Nat.ne_of_gt I1.big)⟩
def rCatB : R2 := fun x y H Q => ∃ l b xs zs, x = .ref l ∧ y = .ref b ∧ H l = some (.lst xs) ∧ H b = some (.lst zs) ∧ xs.length + zs.length ≤ sizeLine ∧ ∀ p, H p = none → p ≠ sysModules → Q (.ref p) (upd H p (.lst (xs ++ zs)))
theorem op_catB : OpR X (binaryOp .Add) rCatB := by
  intro pins s σ H x y v u Q I rx ry h
  obtain ⟨l, b, xs, zs, rfl, rfl, hH, hB, hz, q⟩ := h
  cases rx
  cases ry
  obtain ⟨z, its, n, r, hl, e⟩ := I.lstM hH
  obtain ⟨z2, its2, n2, r2, hl2, e2⟩ := I.lstM hB
  refine PySem.P.add_list e e2 ?_ (by rw [List.size_toArray, List.size_toArray]; omega)
  rw [show its.toArray ++ its2.toArray = (its ++ its2).toArray by simp]
  exact ⟨.ref _, _, I.lnew (t' := s.toks) (r.append r2) (by rw [List.length_append]; omega), rfl, q _ I.fresh (Nat.ne_of_gt I.big)⟩
end
end Tw
/-! Tw, part 3: errors of own classes as values. -/
namespace Tw
open PySem PySem.Spec PyProof.Rows L2

/-- at a: an error of the class at C (made or caught), its own dict at d -/
def exT (a C : Addr) (d : Option Addr) : HO := .ext fun h => ∃ (oe : Obj) (vs : Array Value), h.get? a = some oe ∧ Zc (.ref C) d oe ∧ oe.data = .fields vs
theorem exT_ok {P : Program} {w : World} {H : Hp} {h : Heap} {a C : Addr} {d : Option Addr} {oe : Obj} {vs : Array Value} (e : h.get? a = some oe) (z : Zc (.ref C) d oe) (hd : oe.data = .fields vs) : ObjOk P w H h a (exT a C d) :=
  ⟨⟨oe, vs, e, z, hd⟩, ⟨oe, e⟩, fun _ _ ⟨o, v, q, r⟩ k => ⟨o, v, k o q, r⟩⟩
def IsX (H : Hp) (a C : Addr) (d : Option Addr) : Prop := H a = some (exo a C d) ∨ H a = some (exT a C d)
def IsXd (H : Hp) (d : Addr) (fs : List (Str × V)) : Prop := H d = some (exd d fs) ∨ H d = some (.xd fs)
theorem IsX.get {P : Program} {w : World} {H : Hp} {h : Heap} {a C : Addr} {d : Option Addr} (hok : HOk P w H h) (x : IsX H a C d) : ∃ (oe : Obj) (vs : Array Value), h.get? a = some oe ∧ Zc (.ref C) d oe ∧ oe.data = .fields vs := by
  rcases x with e | e
  · obtain ⟨t1, q⟩ := exo_at hok e
    exact ⟨_, _, q, ⟨rfl, rfl⟩, rfl⟩
  · have x : ObjOk P w H h a (.ext fun h => ∃ (oe : Obj) (vs : Array Value), h.get? a = some oe ∧ Zc (.ref C) d oe ∧ oe.data = .fields vs) := hok a _ e
    exact x.1
theorem IsXd.get {P : Program} {w : World} {H : Hp} {h : Heap} {d : Addr} {fs : List (Str × V)} (hok : HOk P w H h) (x : IsXd H d fs) : ∃ mA, h.Ns1 d mA ∧ ∀ f, RelO (fs.lookup f) (mA f) := by
  rcases x with e | e
  · exact exd_at hok e
  · exact (show ObjOk P w H h d (.xd fs) from hok d _ e)
theorem IsX.same {H H' : Hp} {a C : Addr} {d : Option Addr} (e : Same H H') (x : IsX H a C d) : IsX H' a C d := x.imp (e _ _) (e _ _)
theorem IsXd.same {H H' : Hp} {d : Addr} {fs : List (Str × V)} (e : Same H H') (x : IsXd H d fs) : IsXd H' d fs := x.imp (e _ _) (e _ _)

/-- what the written part says of an error class -/
structure XC (K : PySem.W.Frag) (C : Addr) : Prop where
  ox : OexC K C
  ga : PySem.W.findIn K (.ref C) "__getattribute__" = some (some (.builtin "BaseException.__getattribute__"))
  gg : PySem.W.findIn K (.ref C) "__getattr__" = some none
  hd : PySem.W.hasDictIn K C = true
  ca : PySem.W.findIn K (.ref C) "__class__" = some (some (.builtin "object.__class__"))
  cm : PySem.W.mroIn K C (.type "object") = some true
/-- what it says of object.__class__ -/
structure XO (K : PySem.W.Frag) : Prop where
  hn : PySem.W.specialIn K (.builtin "object.__class__") "__get__" = some (some (.builtin "getset_descriptor.__get__"))
  ht : PySem.W.takesIn K (.builtin "object.__class__") = some true
theorem oexC_cl {K : PySem.W.Frag} {C : Addr} (T : OexC K C) : (PySem.W.clsIn K C).isSome = true := by
  obtain ⟨nm, q, N, bs, bm, sn, sub, ab, col, dd, k0, k1, k2, k3, k5, hC, _⟩ := T.cls
  unfold PySem.W.clsIn
  rw [hC]
  rfl
section
variable {X : Cx} {CX : CXT} {k : Nat} {fI C : Addr} {fd : FuncData} {ps : List Str} {sp : Sp} {dvs : List V} {ds : List Value} {E : XK} {x f : Str} {p pos : Pos} {e : Expr} {es : List Expr} {ta : TA} {te : TE}
/-- C(e, ..) as a value, C an error class whose __init__ keeps sp -/
def tMkX (C : Addr) (sp : Sp) (dvs : List V) (ta : TA) : TE := fun σ H Q => ta σ H fun vs H1 => vs.length ≤ 1000 ∧ ∀ a, H1 a = none → sp (.ref a :: (vs ++ dvs)) (upd H1 a (exo a C none)) (fun v H2 => v = .non ∧ Q (.ref a) H2) (fun _ _ _ => False)
theorem pe_mkX (T : OexC X.K C) (iC : PySem.W.findIn X.K (.ref C) "__init__" = some (some (.ref fI))) (tI : PySem.W.typeIn X.K (.ref fI) = some (.type "function"))
    (F1 : FnOk X.prog X.w X.K X.mg X.base CX k fI fd ps sp) (hr : Room (k + 1) X.A) (hb : Binds X.K fd ps ds) (hd : Vals dvs ds) (hx : Passes CX X (fun _ _ _ => False)) (hg : Gl X x) (hm : X.mg x = some (.ref C)) (ha : PA X (e :: es) ta)
    (hdb : (x == ("__debug__" : Str)) = false := by decide) (he : starEach (e :: es) X.env = (false, eval e X.env) :: starEach es X.env := by rfl) (hpl : (backTo pos (starEach es X.env)).any (·.1) = false := by rfl) :
    PE X (.Call (.Name x p) (e :: es) [] pos) (tMkX C sp dvs ta) := by
  refine ⟨fun pins s σ H Q I h => ?_⟩
  obtain ⟨nm, q, N, bs, bm, sn, sub, ab, col, dd, k0, k1, k2, k3, k5, hC, hbm⟩ := T.cls
  refine wpAny_Call_Name_kw (ld_glob I hg hm ?_ hdb)
  refine PySem.W.callWith_K (h₀ := X.base) I.ok.mod.kin T.kC (thn (ha.run pos pins s σ H _ I h) fun us s1 ⟨vs, H1, I1, r1, hz, q1⟩ => ⟨I1.kIn, ?_⟩) he hpl
  show wpAny _ _ (call (.ref C) us) _ _ _
  obtain ⟨hp, g, dr, tk, os⟩ := s1
  have hsz : hp.objs.size ≤ hp.objs.size + 1 := Nat.le_succ _
  have hq := q1 (hp.objs.size + 1) (I1.hok.fresh hsz)
  have kk : ∀ b o, hp.get? b = some o → ((hp.push (PySem.W.kdv_tup us)).push (PySem.HandSPX.excO C hp.objs.size)).get? b = some o := fun b o z => Heap.get?_push_of_some _ (Heap.get?_push_of_some _ z)
  have hget : ((hp.push (PySem.W.kdv_tup us)).push (PySem.HandSPX.excO C hp.objs.size)).get? (hp.objs.size + 1) = some (PySem.HandSPX.excO C hp.objs.size) := by heap_get
  have I2 := I1.laid (t' := tk) (a := hp.objs.size + 1) (o := exo (hp.objs.size + 1) C none) (h' := (hp.push (PySem.W.kdv_tup us)).push (PySem.HandSPX.excO C hp.objs.size)) kk hsz (exo_ok hget)
  have r2 : Vals (V.ref (hp.objs.size + 1) :: (vs ++ dvs)) (Value.ref (hp.objs.size + 1) :: (us ++ ds)) := .cons rfl (r1.append hd)
  have hl : (Value.ref (hp.objs.size + 1) :: us ++ ds).length = ps.length := r2.length.symm.trans (F1.len _ _ _ _ hq)
  have hus : us.length ≤ sizeLine := by
    rw [← Paired.length r1, sizeLine_eq]
    omega
  refine wpAny_call (PySem.HandSPX.call_own F.excBase_ValueError (fun Y => PySem.HandSPX.refsVE_contains Y bm hbm) (I1.kIn _ _ hC) (PySem.W.looks_findIn I1.kIn iC) (fun self => PySem.W.bind_fn I1.kIn self tI) hus
    (codeAny_mono (F1.run _ X.stack _ _ ⟨Value.ref (hp.objs.size + 1) :: us, []⟩ (Value.ref (hp.objs.size + 1) :: (us ++ ds)) _ _ (fun _ _ _ => False) (hr.make C us []) (I2.env0.make C us []) (hb _ (Value.ref (hp.objs.size + 1) :: us) I2.kIn hl) r2 hq) fun r s' hq' => ?_))
  match r, hq' with
  | .error er, hq' => exact hx pins σ _ _ er s' I2 hq'
  | .ok (.ret u), hq' =>
    obtain ⟨v, H2, os2, bare2, un2, hok2, rv, ev, q2⟩ := hq'
    subst ev
    obtain ⟨h2, g2, d2, t2, os'⟩ := s'
    obtain rfl : os' = os := os2
    exact ⟨rv, .ref (hp.objs.size + 1), H2, I2.call (h' := h2) (g' := g2) (d' := d2) (t' := t2) (ch := []) un2 hok2 bare2 (fun b z => nomatch z), rfl, q2⟩
/-- e.f, e an error -/
def tXfld (K : PySem.W.Frag) (f : Str) (te : TE) : TE := fun σ H Q => te σ H fun x H1 => ∃ (a C d : Addr) (fs : List (Str × V)) (v : V), x = .ref a ∧ IsX H1 a C (some d) ∧ XC K C ∧ PySem.W.findIn K (.ref C) f = some none ∧ IsXd H1 d fs ∧ fs.lookup f = some v ∧ Q v H1
theorem pe_xfld (he : PE X e te) (hb : attributeBase e f X.env (eval e X.env) = eval e X.env := by rfl) : PE X (.Attribute e f pos) (tXfld X.K f te) := by
  refine ⟨fun pins s σ H Q I h => attr_of hb (thn (he.run pins s σ H _ I h) fun u s1 hh => ?_)⟩
  obtain ⟨x, H1, I1, rx, a, C, d, fs, v, ex, ia, T, hno, idd, hl, q⟩ := hh
  subst ex
  obtain rfl : u = Value.ref a := rx
  obtain ⟨oe, vs, ho, hz, hdt⟩ := ia.get I1.hok
  obtain ⟨mA, hns, hr⟩ := idd.get I1.hok
  obtain ⟨od, hod, hlk⟩ := lookIn_ns hns
  obtain ⟨u, hu, ru⟩ := RelO.some_of (v := v) (o := mA f) (by rw [← hl]; exact hr f)
  have J : PySem.W.InstAt s1.heap a oe C (some od) := ⟨ho, hz.1, by unfold PySem.W.notCls; rw [hdt] <;> rfl, by rw [hz.2]; exact hod⟩
  exact HandSPX.exc_get I1.kIn J T.ga T.gg T.ox.exC (PySem.W.findObj_own T.hd hno rfl (by rw [hlk, hu])) (handed_of ru) ⟨v, H1, I1.tok _, ru, q⟩
/-- isinstance(x, c), x anything that is known, errors too -/
def rIsA (K : PySem.W.Frag) : List V → Hp → VK → Prop := fun xs H Q => ∃ (x c : V) (t u : Value) (b : Bool), xs = [x, c] ∧ ClsV c u ∧ (TyX K H x t ∨ ∃ (a C : Addr) (d : Addr) (fs : List (Str × V)), x = .ref a ∧ t = .ref C ∧ IsX H a C (some d) ∧ IsXd H d fs ∧ XC K C ∧ XO K) ∧ PySem.W.kitOne K t u = some b ∧ Q (.bl b) H
theorem call_isA : CallR X (.builtin "isinstance") (rIsA X.K) := by
  intro pins s σ H xs us Q I r h
  obtain ⟨x, c, t, u, b, rfl, k, ty, e, q⟩ := h
  obtain ⟨u1, u2, rfl, r1, r2⟩ := vals2 r
  have e2 := k.eq r2
  subst e2
  rcases ty with ty | ⟨a, C, d, fs, rfl, rfl, ia, idd, T, O⟩
  · obtain ⟨P, Z, p, hx⟩ := kit_of I r1 ty
    exact PySem.W.kia_one Z I.kIn p e hx fun tk => ⟨.bl b, H, I.tok tk, rfl, q⟩
  · cases (show u1 = Value.ref a from r1)
    obtain ⟨oe, vs, ho, hz, hdt⟩ := ia.get I.hok
    obtain ⟨mA, hns, hr⟩ := idd.get I.hok
    obtain ⟨od, hod, hlk⟩ := lookIn_ns hns
    have J : PySem.W.InstAt s.heap a oe C (some od) := ⟨ho, hz.1, by unfold PySem.W.notCls; rw [hdt] <;> rfl, by rw [hz.2]; exact hod⟩
    exact PySem.W.kia_one (PySem.W.kitx_exc (od := some od) (oexC_cl T.ox) T.ga T.gg T.ox.exC T.ca O.hn O.ht T.cm) I.kIn J e (fun z => nomatch z) fun tk => ⟨.bl b, H, I.tok tk, rfl, q⟩
end
end Tw
/-! Tw, part 4: the head's facts by names, error classes too. -/
namespace Tw
open PySem PySem.Spec PyProof.Rows L2 He
abbrev Fg := PySem.W.Frag
def excB (K : Fg) (C : Addr) : Bool := match K.lookup C with
  | some ⟨.type t, _, .cls cd, sl⟩ => (match cd.mro, sl.toList with
    | .ref C' :: bm, [_, _, _, _, some (.builtin n), _] => decide (t = "type") && (decide (C' = C) && (decide (n = "ValueError.__new__") && (!cd.hasDel && (cd.hasDict && PySem.HandSPX.refsVE bm))))
    | _, _ => false)
  | _ => false
theorem excB_ok {K : Fg} {C : Addr} (h : excB K C = true) : ∃ nm q N bs bm sn sub ab col dd k0 k1 k2 k3 k5, K.lookup C = some (excClassObj nm q C N bs bm true sn sub ab col dd k0 k1 k2 k3 k5 "ValueError.__new__") ∧ PySem.HandSPX.refsVE bm = true := by
  unfold excB at h
  cases e : K.lookup C with
  | none =>
    rw [e] at h
    cases h
  | some o =>
    rw [e] at h
    obtain ⟨oc, od, dt, sl⟩ := o
    cases oc with
    | type t =>
      cases dt with
      | cls cd =>
        obtain ⟨nm, bs, mro, ns, q, hd, sn, sb, ab, col, del⟩ := cd
        dsimp only at h
        obtain ⟨sl⟩ := sl
        dsimp only at h
        match mro, sl, h with
        | .ref C' :: bm, [k0, k1, k2, k3, some (.builtin n), k5], h =>
          obtain ⟨h1, h⟩ := ba h
          obtain ⟨h2, h⟩ := ba h
          obtain ⟨h3, h⟩ := ba h
          obtain ⟨h4, h⟩ := ba h
          obtain ⟨h5, h6⟩ := ba h
          have e1 := of_decide_eq_true h1
          have e2 := of_decide_eq_true h2
          have e3 := of_decide_eq_true h3
          subst e1 e2 e3
          have e4 : del = false := by simpa using h4
          subst e4
          subst h5
          exact ⟨_, _, _, _, _, _, _, _, _, _, _, _, _, _, _, rfl, h6⟩
      | _ => cases h
    | _ => cases h
inductive Fy where
  | fa (f : Fa)
  | xc (x : Str)
  | xo
  | ini (x : Str)
  | kit (x y : Str) (b : Bool)
  | kitT (x : Str) (T : String) (b : Bool)
  | names (x : Str) (zs : List Str)
def Fy.ok (K : Fg) : Fy → Bool
  | .fa f => f.ok K
  | .xc x => excB K (ga K x) && (eqO (PySem.W.findIn K (.ref (ga K x)) "__setattr__") (some (some (.builtin "object.__setattr__"))) && (decide (PySem.W.subIn K (.ref (ga K x)) (.type "BaseException") = some true) && (decide (PySem.W.typeIn K (.ref (ga K x)) = some (.type "type")) &&
      (PySem.W.keepIn K (.ref (ga K x)) && (eqO (PySem.W.findIn K (.ref (ga K x)) "__getattribute__") (some (some (.builtin "BaseException.__getattribute__"))) && (eqO (PySem.W.findIn K (.ref (ga K x)) "__getattr__") (some none) &&
      (PySem.W.hasDictIn K (ga K x) && (eqO (PySem.W.findIn K (.ref (ga K x)) "__class__") (some (some (.builtin "object.__class__"))) && decide (PySem.W.mroIn K (ga K x) (.type "object") = some true)))))))))
  | .xo => eqO (PySem.W.specialIn K (.builtin "object.__class__") "__get__") (some (some (.builtin "getset_descriptor.__get__"))) && decide (PySem.W.takesIn K (.builtin "object.__class__") = some true)
  | .ini x => eqO (PySem.W.findIn K (.ref (ga K x)) "__init__") (some (some (.ref (ma K (ga K x) "__init__")))) && decide (PySem.W.typeIn K (.ref (ma K (ga K x) "__init__")) = some (.type "function"))
  | .kit x y b => decide (PySem.W.kitOne K (.ref (ga K x)) (.ref (ga K y)) = some b)
  | .kitT x T b => decide (PySem.W.kitOne K (.ref (ga K x)) (.type T) = some b)
  | .names x zs => zs.all fun z => eqO (PySem.W.findIn K (.ref (ga K x)) z) (some none)
section
variable {K : Fg} {h : Heap} {mg : Str → Option Value}
theorem xc_ok {x : Str} (c : (Fy.xc x).ok K = true) : XC K (ga K x) := by
  obtain ⟨c1, c⟩ := ba c
  obtain ⟨c2, c⟩ := ba c
  obtain ⟨c3, c⟩ := ba c
  obtain ⟨c4, c⟩ := ba c
  obtain ⟨c5, c⟩ := ba c
  obtain ⟨c6, c⟩ := ba c
  obtain ⟨c7, c⟩ := ba c
  obtain ⟨c8, c⟩ := ba c
  obtain ⟨c9, c10⟩ := ba c
  exact ⟨⟨excB_ok c1, eqO_ok c2, of_decide_eq_true c3, of_decide_eq_true c4, c5⟩, eqO_ok c6, eqO_ok c7, c8, eqO_ok c9, of_decide_eq_true c10⟩
theorem xo_ok (c : Fy.xo.ok K = true) : XO K := by
  unfold Fy.ok at c
  obtain ⟨c1, c2⟩ := ba c
  exact ⟨eqO_ok c1, of_decide_eq_true c2⟩
theorem ini_ok {x : Str} (c : (Fy.ini x).ok K = true) : PySem.W.findIn K (.ref (ga K x)) "__init__" = some (some (.ref (ma K (ga K x) "__init__"))) ∧ PySem.W.typeIn K (.ref (ma K (ga K x) "__init__")) = some (.type "function") := by
  obtain ⟨c1, c2⟩ := ba c
  exact ⟨eqO_ok c1, of_decide_eq_true c2⟩
theorem kit_ok {x y : Str} {b : Bool} (c : (Fy.kit x y b).ok K = true) : PySem.W.kitOne K (.ref (ga K x)) (.ref (ga K y)) = some b := of_decide_eq_true c
theorem kitT_ok {x : Str} {T : String} {b : Bool} (c : (Fy.kitT x T b).ok K = true) : PySem.W.kitOne K (.ref (ga K x)) (.type T) = some b := of_decide_eq_true c
theorem names_ok {x : Str} {zs : List Str} (c : (Fy.names x zs).ok K = true) {z : Str} (hz : z ∈ zs) : PySem.W.findIn K (.ref (ga K x)) z = some none := eqO_ok (List.all_eq_true.mp c z hz)
end
/-! ### the hook: any truths of the written part, in groups -/
abbrev Fz := List (Fg → Bool)
def obsY (fs : Fz) (fn : List DefD) (K : Fg) : AlD := ((fs.all fun f => f K) && fn.all fun d => d.ok K, fn.map fun d => fnW K d.at_)
def SaysY (fs : Fz) (fn : List DefD) (K : Fg) : Prop := obsY fs fn K = valD fn
def obsYG (n : Nat) (fs : Fz) (fn : List DefD) (g : Addr → Option Obj) : AlD := obsY fs fn (frG g (asD g n))
def hookY (n : Nat) (fs : Fz) (fn : List DefD) : PySem.W.Hook where
  α := AlD
  obs := fun s => obsYG n fs fn s.heap.get?
  val := fun _ => valD fn
  says := fun _ h => ∃ K : Fg, K.In h ∧ SaysY fs fn K
  of := fun _ _ e => ⟨_, frG_in, e⟩
  keeps := fun _ _ _ ⟨K, hK, c⟩ k => ⟨K, PySem.W.Frag.In.keeps hK k, c⟩
theorem obsYG_eq {n : Nat} {fs : Fz} {fn : List DefD} {g : Addr → Option Obj} {s : Shared} (h : ∀ a, g a = s.heap.get? a) : obsYG n fs fn g = (hookY n fs fn).obs s := by
  have e : g = s.heap.get? := funext h
  rw [e] <;> rfl
section
variable {fs : Fz} {fn : List DefD} {K : Fg}
theorem SaysY.fact (c : SaysY fs fn K) (i : Nat) {f : Fg → Bool} (h : fs[i]? = some f := by rfl) : f K = true := by
  have c1 := (ba (show ((fs.all fun f => f K) && fn.all fun d => d.ok K) = true from congrArg (fun z : AlD => z.1) c)).1
  exact List.all_eq_true.mp c1 f (List.mem_of_getElem? h)
theorem SaysY.def_ (c : SaysY fs fn K) (i : Nat) {d : DefD} (h : fn[i]? = some d := by rfl) : ∃ fd, FunD K d.name d.qual d.params d.body d.scope (d.dvs K) (d.kws K) (fAd K d.at_) fd := by
  have c2 := (ba (show ((fs.all fun f => f K) && fn.all fun d => d.ok K) = true from congrArg (fun z : AlD => z.1) c)).2
  have e : fn.map (fun d => fnW K d.at_) = fn.map DefD.val := congrArg (fun z : AlD => z.2) c
  have e2 : (fn.map fun d => fnW K d.at_)[i]? = (fn.map DefD.val)[i]? := by rw [e]
  rw [List.getElem?_map, List.getElem?_map, h] at e2
  exact DefD.funD (Option.some.inj e2) (List.all_eq_true.mp c2 d (List.mem_of_getElem? h))
/-- a group told of each item of a list -/
theorem of_all {α : Type} {l : List α} {f : α → Bool} (h : l.all f = true) {x : α} (hx : x ∈ l) : f x = true := List.all_eq_true.mp h x hx
end
/-! ### defs as data -/
abbrev FnP (K : Fg) (x qual : Str) (st : Stmt) (f : Addr) (fd : FuncData) : Prop := FunD K x qual (defArgs st) (defBody st) (defScope st) [] [] f fd
theorem _root_.L2.FunD.okG {P : Program} {w : World} {K : Fg} {mg : Str → Option Value} {base : Heap} {CX : CXT} {x qual : Str} {params : Arguments} {body : List Stmt} {scope : Scope} {dvs : List V} {kws : List (Str × V)} {f : Addr} {fd : FuncData} {N ps : List Str} {k : Nat} {sp : Sp}
    (F : FunD K x qual params body scope dvs kws f fd) (S : FnScope N ps scope) (len : ∀ vs H Q E, sp vs H Q E → vs.length = ps.length)
    (hbody : ∀ (cdv : Value) (A : Around) (outer : List Env) (s : Shared) (H : Hp) (vs : List V) (Q : VK) (E : XK), Room k (A.deeper (envOfC qual scope s.heap.objs.size f cdv)) → NoG (A.deeper (envOfC qual scope s.heap.objs.size f cdv)) → sp vs H Q E →
      ∃ t, PSs (cxOf CX P w K mg base N qual scope f cdv A outer s H E) body t ∧ t { nx := fun _ H' => Q .non H', rt := Q } (start N vs) H) : FnG P w K mg base CX (k + 1) f fd ps sp := by
  obtain ⟨oc, od, dV, kV, doc, pm, an, cdv, ct, osl, rfl, lk, hcd, _, _⟩ := F.ex
  exact fng lk hcd S len fun A outer s H vs Q E hr hg hsp => hbody cdv A outer s H vs Q E hr hg hsp
/-! ### the law's end over facts -/
theorem walk_ofEG {l : PySem.W.OpenLaw} {n k : Nat} {q : Program} {loose : List Str} {XP : (Str → Option Value) → Heap → Prop} {YP : World → Heap → Prop} {d : DefRec} {CX : CXT} {x : Str}
    (hn : l.most = some n) (hn2 : n ≤ sizeLine) (hdf : d.params.defaults = []) (hr : Room k callerA)
    (F : ∀ (w : World) (mg : Str → Option Value) (fa : Addr) (h : Heap), YP w h → h.Ns mainGlobals mg → mg d.name = some (.ref fa) →
      ∃ (K : Fg) (fd : FuncData) (sp : Sp), K.In h ∧ (∀ (s : Shared) (u : Value), BindsTo s fd ⟨[u], []⟩ [(x, u)]) ∧
        (∀ (H : Hp) (a : Addr) (ns : List Int), ns.length ≤ n → Only H → SqL K H a (ns.map V.int) → sp [.ref a] H (fun v _ => v = .bl true) fun _ _ _ => False) ∧
        ∀ base : Heap, K.In base → base.Ns mainGlobals mg → FnG l.prog w K mg base CX k fa fd [x] sp)
    (hCX : ∀ (H : Hp) (s : Shared) (e : Value) (s' : Shared), CX [] H s (fun _ _ _ => False) e s' → False) :
    PySem.W.WalkO q loose XP YP l.row.toRowW d [] (fun f vs => PySem.call f vs) := by
  refine Att.attach_call hn hdf fun w s₀ s₁ mg mb fa o pm cd doc a vs ns G Y ho hd hcd hmg hobj hints hlen hg => ?_
  obtain ⟨K, fd, sp, KX, hb, hsp, hF⟩ := F w mg fa _ Y G.T.g hmg
  exact law_endG KX G.T.g G.T.b G.T.builtins G.T.nolimit hg hobj hints (Nat.le_trans hlen hn2) hr hF hb (fun H hO hS => hsp H a ns hlen hO hS) fun H e s' => hCX H s₁ e s'
end Tw
/-! Tw: new objects, told by what holds of the heap behind them alone. -/
namespace Tw
open PySem PySem.Spec PyProof.Rows L2
theorem same_new {H : Hp} {p : Addr} {o : HO} (h : H p = none) : Same H (upd H p o) := fun b u e => by
  rw [upd_ne (ne_of_none e h)]
  exact e
section
variable {X : Cx} {es : List Expr} {t : TA} {pos : Pos}
/-- a new object o: its place, the heap behind -/
def New (H : Hp) (o : HO) (Q : Addr → Hp → Prop) : Prop := ∀ (p : Addr) (H' : Hp), H p = none → p ≠ sysModules → Same H H' → H' p = some o → Q p H'
theorem New.at {H : Hp} {o : HO} {Q : Addr → Hp → Prop} (h : New H o Q) {p : Addr} (h1 : H p = none) (h2 : p ≠ sysModules) : Q p (upd H p o) := h p _ h1 h2 (same_new h1) upd_same
def tLstN (t : TA) : TE := fun σ H Q => t σ H fun xs H1 => xs.length ≤ sizeLine ∧ New H1 (.lst xs) fun p H' => Q (.ref p) H'
theorem pe_lstN (h : PA X es t) : PE X (.List es pos) (tLstN t) := by
  refine ⟨fun pins s σ H Q I hq => wpAny_List_spliced (thn (h.run pos pins s σ H _ I hq) fun us s1 ⟨xs, H1, I1, r, z, q⟩ => ⟨by rw [← r.length]; exact z, ?_⟩)⟩
  exact ⟨.ref s1.heap.objs.size, upd H1 s1.heap.objs.size (.lst xs), I1.laid (t' := s1.toks) (fun b u e => Heap.get?_push_of_some _ e) (Nat.le_refl _) ⟨z, us, 0, r, Heap.get?_push_size _ rfl⟩, rfl, q.at (I1.hok.fresh (Nat.le_refl _)) (Nat.ne_of_gt I1.big)⟩
def tTupN (t : TA) : TE := fun σ H Q => t σ H fun xs H1 => xs.length ≤ sizeLine ∧ ∀ (p : Addr) (H' : Hp), H1 p = none → Same H1 H' → H' p = some (.tup xs) → Q (.ref p) H'
theorem pe_tupN {x1} (h : PA X es t) : PE X (.Tuple es x1 pos) (tTupN t) := by
  refine ⟨fun pins s σ H Q I hq => wpAny_Tuple_spliced (thn (h.run pos pins s σ H _ I hq) fun us s1 ⟨xs, H1, I1, r, z, q⟩ => ⟨by rw [← r.length]; exact z, ?_⟩)⟩
  have hf : H1 s1.heap.objs.size = none := I1.hok.fresh (Nat.le_refl _)
  exact ⟨.ref s1.heap.objs.size, upd H1 s1.heap.objs.size (.tup xs), I1.laid (t' := s1.toks) (fun b u e => Heap.get?_push_of_some _ e) (Nat.le_refl _) ⟨z, us, r, _, Heap.get?_push_size _ rfl, rfl, 0, rfl⟩, rfl, q _ _ hf (same_new hf) upd_same⟩
def tDnewN : TE := fun _ H Q => New H (.dK []) fun p H' => Q (.ref p) H'
theorem pe_dnewN : PE X (.Dict [] [] pos) tDnewN := ⟨fun pins s σ H Q I h =>
  wpAny_Dict_empty ⟨.ref s.heap.objs.size, _, I.laid (a := s.heap.objs.size) (o := .dK []) (t' := s.toks) (fun _ _ q => Heap.get?_push_of_some _ q) (Nat.le_refl _) (dk_empty s.heap I.big), rfl, h.at (I.hok.fresh (Nat.le_refl _)) (Nat.ne_of_gt I.big)⟩⟩
def rCatN : R2 := fun x y H Q => ∃ l b xs zs, x = .ref l ∧ y = .ref b ∧ H l = some (.lst xs) ∧ H b = some (.lst zs) ∧ xs.length + zs.length ≤ sizeLine ∧ New H (.lst (xs ++ zs)) fun p H' => Q (.ref p) H'
theorem op_catN : OpR X (binaryOp .Add) rCatN := by
  intro pins s σ H x y v u Q I rx ry h
  obtain ⟨l, b, xs, zs, rfl, rfl, hH, hB, hz, q⟩ := h
  cases rx
  cases ry
  obtain ⟨z, its, n, r, hl, e⟩ := I.lstM hH
  obtain ⟨z2, its2, n2, r2, hl2, e2⟩ := I.lstM hB
  refine PySem.P.add_list e e2 ?_ (by rw [List.size_toArray, List.size_toArray]; omega)
  rw [show its.toArray ++ its2.toArray = (its ++ its2).toArray by simp]
  exact ⟨.ref _, _, I.lnew (t' := s.toks) (r.append r2) (by rw [List.length_append]; omega), rfl, q.at I.fresh (Nat.ne_of_gt I.big)⟩
end
end Tw
namespace Tw
open PySem PySem.Spec PyProof.Rows L2
theorem room70 {k : Nat} {A : Around} (r : Room k A) : A.units + 70 < cLine := by
  have := r.un
  omega
section
variable {X : Cx} {K : PySem.W.Frag}
theorem ixl (K : PySem.W.Frag) (h : X.K = K := by rfl) : IxR X (rIxL K) := by
  subst h
  exact ix_list
theorem ixt (K : PySem.W.Frag) (h : X.K = K := by rfl) : IxR X (rIxT K) := by
  subst h
  exact ix_tup
end
end Tw
/-! Tw, part 5: the pen that draws. -/
namespace Tw
open PySem PySem.Spec PyProof.Rows L2 He
/-- a statement, what holds behind it on every way, the rest once -/
def tMid (t u : TS) : TS := fun D σ H => ∃ W : L2.St → Hp → Prop, t { D with nx := W } σ H ∧ ∀ σ' H', W σ' H' → u D σ' H'
theorem pss_mid {X : Cx} {st : Stmt} {rest : List Stmt} {t u : TS} (h1 : PS X st t) (h2 : PSs X rest u) : PSs X (st :: rest) (tMid t u) :=
  ⟨fun pins s σ H D I ⟨W, hm, hu⟩ => wpAny_execs_cons (thn (h1.run pins s σ H { D with nx := W } I hm) fun f s1 q => match f, q with
    | .next, ⟨σ', H', I', q⟩ => h2.run pins s1 σ' H' D I' (hu σ' H' q)
    | .ret _, q => q
    | .brk, q => q
    | .cont, q => q)⟩
/-- all that was tracked but p stands -/
def But (p : Addr) (H H' : Hp) : Prop := ∀ b o, H b = some o → b ≠ p → H' b = some o
theorem But.refl {p : Addr} (H : Hp) : But p H H := fun _ _ e _ => e
theorem But.trans {p : Addr} {H H1 H2 : Hp} (a : But p H H1) (b : But p H1 H2) : But p H H2 := fun c o e h => b c o (a c o e h) h
theorem But.of {p : Addr} {H H' : Hp} (e : Same H H') : But p H H' := fun b o h _ => e b o h
theorem But.upd {p : Addr} {H : Hp} {o : HO} : But p H (upd H p o) := fun b u e h => by
  rw [upd_ne h]
  exact e
/-- the pen: the script's ints, the number of draws so far, what is left of a great number -/
def PenAt (H : Hp) (p : Addr) (c : Nat) : Prop := ∃ (l : Addr) (ns : List Int) (i g : Int), H p = some (.lst [.ref l, .int i, .int g]) ∧ H l = some (.lst (ns.map V.int)) ∧ l ≠ p ∧ ns.length ≤ 63 ∧ 0 ≤ i ∧ i ≤ (c : Int) ∧ 0 ≤ g
theorem PenAt.mono {H : Hp} {p : Addr} {c c' : Nat} (h : PenAt H p c) (hc : c ≤ c') : PenAt H p c' := by
  obtain ⟨l, ns, i, g, h1, h2, h3, h4, h5, h6, h7⟩ := h
  exact ⟨l, ns, i, g, h1, h2, h3, h4, h5, by omega, h7⟩
theorem PenAt.same {H H' : Hp} {p : Addr} {c : Nat} (e : Same H H') (h : PenAt H p c) : PenAt H' p c := by
  obtain ⟨l, ns, i, g, h1, h2, h3⟩ := h
  exact ⟨l, ns, i, g, e _ _ h1, e _ _ h2, h3⟩
/-- a draw: below many, the pen one further, nothing else touched -/
def spDraw : Sp := fun vs H Q _ => ∃ (p : Addr) (m : Int) (c : Nat), vs = [.ref p, .int m] ∧ 0 < m ∧ m < 1073741824 ∧ PenAt H p c ∧ c ≤ 1000000 ∧
  ∀ (r : Int) (H' : Hp), 0 ≤ r → r < m → PenAt H' p (c + 1) → But p H H' → Q (.int r) H'
theorem dp_ints {K : Fg} {H : Hp} : ∀ ns : List Int, DpAll K H (ns.map V.int) (ns.map PyData.int)
  | [] => .nil
  | n :: ns => .cons (.int n) (dp_ints ns)
theorem lay_ints : ∀ ns : List Int, PyData.canLayAll0 (ns.map PyData.int) = true ∧ PyData.depthAll (ns.map PyData.int) = 0
  | [] => ⟨rfl, rfl⟩
  | n :: ns => by
    obtain ⟨h1, h2⟩ := lay_ints ns
    constructor
    · simp only [List.map_cons, PyData.canLayAll0, PyData.canLay0, h1, Bool.and_self]
    · simp only [List.map_cons, PyData.depthAll, PyData.depth, h2, Nat.max_self]
theorem shaped_ints (ns : List Int) : SeqAt.shaped (.list (ns.map PyData.int)) = true := by
  obtain ⟨h1, h2⟩ := lay_ints ns
  simp [SeqAt.shaped, PyData.canLay0, PyData.depth, h1, h2]
theorem atI_of {xs : List V} {i : Int} {v : V} (h0 : 0 ≤ i) (h : xs[i.toNat]? = some v) : atI xs i = some v := by
  have e : i = (i.toNat : Int) := (Int.toNat_of_nonneg h0).symm
  rw [e]
  exact atI_nat h
theorem mul_le' {a b A B : Int} (h1 : 0 ≤ a) (h2 : a ≤ A) (h3 : 0 ≤ b) (h4 : b ≤ B) : 0 ≤ a * b ∧ a * b ≤ A * B :=
  ⟨Int.mul_nonneg h1 h3, Int.mul_le_mul h2 h4 h3 (Int.le_trans h1 h2)⟩
theorem pow_ok (i : Int) (h0 : 0 ≤ i) (h : i < 2 ^ 64) : i.natAbs < 2 ^ 64 := by omega
end Tw
namespace Tw
open PySem PySem.Spec PyProof.Rows L2 He
theorem But.seq {K : Fg} {p a : Addr} {H H' : Hp} {xs : List V} (e : But p H H') (hne : a ≠ p) (h : SqL K H a xs) : SqL K H' a xs := by
  rcases h with (h | ⟨o, h⟩) | h
  · exact .inl (.inl (e _ _ h hne))
  · exact .inl (.inr ⟨o, e _ _ h hne⟩)
  · exact .inr h
theorem cut_ints (ns : List Int) (lo hi : Option Int) : ∃ ms : List Int, cutV (ns.map V.int) lo hi = ms.map V.int ∧ ms.length ≤ ns.length := by
  refine ⟨(ns.drop (HT.sIx (ns.map V.int).length 0 lo)).take (HT.sIx (ns.map V.int).length (ns.map V.int).length hi - HT.sIx (ns.map V.int).length 0 lo), ?_, ?_⟩
  · unfold cutV
    rw [List.map_take, List.map_drop]
  · rw [List.length_take, List.length_drop]
    omega
/-- a new pen -/
def spPen (K : Fg) : Sp := fun vs H Q _ => ∃ (a : Addr) (ns : List Int), vs = [.ref a] ∧ SqL K H a (ns.map V.int) ∧ ns.length ≤ 63 ∧ ∀ (p : Addr) (H' : Hp), H p = none → PenAt H' p 0 → Same H H' → Q (.ref p) H'
/-- an item of a list that is not the pen, drawn -/
def spPick (K : Fg) : Sp := fun vs H Q _ => ∃ (p q : Addr) (xs : List V) (c : Nat), vs = [.ref p, .ref q] ∧ SqL K H q xs ∧ q ≠ p ∧ 0 < xs.length ∧ xs.length < 1000 ∧ PenAt H p c ∧ c ≤ 1000000 ∧
  ∀ (v : V) (H' : Hp), v ∈ xs → PenAt H' p (c + 1) → But p H H' → Q v H'
/-- the heap without the pen -/
def hid (p : Addr) (H : Hp) : Hp := fun b => if b = p then none else H b
theorem hid_ne {p b : Addr} {H : Hp} (h : b ≠ p) : hid p H b = H b := if_neg h
theorem hid_same {p : Addr} {H : Hp} : Same (hid p H) H := fun b o e => by
  unfold hid at e
  split at e
  · cases e
  · exact e
theorem hid_but {p : Addr} {H H' : Hp} (e : But p H H') : Same (hid p H) (hid p H') := fun b o h => by
  unfold hid at h ⊢
  split at h
  · cases h
  · rename_i hb
    rw [if_neg hb]
    exact e b o h hb
theorem sqT_same {K : Fg} {H H' : Hp} {a : Addr} {xs : List V} (e : Same H H') (h : SqT K H a xs) : SqT K H' a xs := by
  rcases h with (h | ⟨o, h⟩) | h
  · exact .inl (.inl (e _ _ h))
  · exact .inl (.inr ⟨o, e _ _ h⟩)
  · exact .inr h
mutual
theorem Dx.same {K : Fg} {H H' : Hp} (e : Same H H') : ∀ {v : V} {d : PyData}, Dx K H v d → Dx K H' v d
  | _, _, .non => .non
  | _, _, .bl b => .bl b
  | _, _, .int i => .int i
  | _, _, .str x => .str x
  | _, _, .lst h n a => .lst (e.seq h) n (DxAll.same e a)
  | _, _, .tup h a => .tup (sqT_same e h) (DxAll.same e a)
  | _, _, .dic h a => .dic (e _ _ h) (DxAll.same e a)
theorem DxAll.same {K : Fg} {H H' : Hp} (e : Same H H') : ∀ {vs : List V} {ds : List PyData}, DxAll K H vs ds → DxAll K H' vs ds
  | _, _, .nil => .nil
  | _, _, .cons h t => .cons (Dx.same e h) (DxAll.same e t)
end
theorem sz1000 {n : Nat} (h : n ≤ 1000) : n ≤ sizeLine := Nat.le_trans h (by decide)
end Tw
/-! Tw: the pen again, its list of cells named: so that a list that grows beside it is known to be another one. -/
namespace Tw
open PySem PySem.Spec PyProof.Rows L2 He
/-- the pen at p, its cells at l -/
def PenL (H : Hp) (p l : Addr) (c : Nat) : Prop := ∃ (ns : List Int) (i g : Int), H p = some (.lst [.ref l, .int i, .int g]) ∧ H l = some (.lst (ns.map V.int)) ∧ l ≠ p ∧ ns.length ≤ 63 ∧ 0 ≤ i ∧ i ≤ (c : Int) ∧ 0 ≤ g
theorem PenL.mono {H : Hp} {p l : Addr} {c c' : Nat} (h : PenL H p l c) (hc : c ≤ c') : PenL H p l c' := by
  obtain ⟨ns, i, g, h1, h2, h3, h4, h5, h6, h7⟩ := h
  exact ⟨ns, i, g, h1, h2, h3, h4, h5, by omega, h7⟩
theorem PenL.same {H H' : Hp} {p l : Addr} {c : Nat} (e : Same H H') (h : PenL H p l c) : PenL H' p l c := by
  obtain ⟨ns, i, g, h1, h2, h3⟩ := h
  exact ⟨ns, i, g, e _ _ h1, e _ _ h2, h3⟩
/-- another object than the pen and its cells changes -/
theorem PenL.upd {H : Hp} {p l q : Addr} {c : Nat} {o : HO} (h : PenL H p l c) (h1 : q ≠ p) (h2 : q ≠ l) : PenL (L2.upd H q o) p l c := by
  obtain ⟨ns, i, g, e1, e2, r⟩ := h
  exact ⟨ns, i, g, by rw [upd_ne h1.symm]; exact e1, by rw [upd_ne h2.symm]; exact e2, r⟩
/-- what is new is neither -/
theorem PenL.new {H : Hp} {p l q : Addr} {c : Nat} (h : PenL H p l c) (hq : H q = none) : q ≠ p ∧ q ≠ l := by
  obtain ⟨ns, i, g, e1, e2, r⟩ := h
  exact ⟨(ne_of_none e1 hq).symm, (ne_of_none e2 hq).symm⟩
def spDrawL : Sp := fun vs H Q _ => ∃ (p l : Addr) (m : Int) (c : Nat), vs = [.ref p, .int m] ∧ 0 < m ∧ m < 1073741824 ∧ PenL H p l c ∧ c ≤ 1000000 ∧
  ∀ (r : Int) (H' : Hp), 0 ≤ r → r < m → PenL H' p l (c + 1) → But p H H' → Q (.int r) H'
def spPenL (K : Fg) : Sp := fun vs H Q _ => ∃ (a : Addr) (ns : List Int), vs = [.ref a] ∧ SqL K H a (ns.map V.int) ∧ ns.length ≤ 63 ∧ ∀ (p l : Addr) (H' : Hp), H p = none → PenL H' p l 0 → Same H H' → Q (.ref p) H'
def spPickL (K : Fg) : Sp := fun vs H Q _ => ∃ (p l q : Addr) (xs : List V) (c : Nat), vs = [.ref p, .ref q] ∧ SqL K H q xs ∧ q ≠ p ∧ 0 < xs.length ∧ xs.length < 1000 ∧ PenL H p l c ∧ c ≤ 1000000 ∧
  ∀ (v : V) (H' : Hp), v ∈ xs → PenL H' p l (c + 1) → But p H H' → Q v H'
end Tw
/-! Tw: try: body, except x as n: suite, the caught error tracked behind the suite. -/
namespace Tw
open PySem PySem.Spec PyProof.Rows L2
section
variable {X : Cx} {pins : List (Addr × Obj)} {σ : L2.St} {H : Hp} {s : Shared}
/-- a pinned error of ours becomes a tracked one -/
theorem track {a C : Addr} {d : Option Addr} {oe : Obj} {vs : Array Value} (I : Inv X ((a, oe) :: pins) σ H s) (h0 : X.s_0.heap.get? a = none) (hne : ∀ p ∈ X.pn ++ pins, p.1 ≠ a) (hz : Zc (.ref C) d oe) (hd : oe.data = .fields vs) :
    Inv X pins σ (upd H a (exT a C d)) s := by
  obtain ⟨ha, na, nL, nF, nC⟩ := I.pin (a, oe) (List.mem_append_right _ List.mem_cons_self)
  have ne : ∀ {b : Addr} {u : HO}, H b = some u → b ≠ a := fun e => ne_of_none e na
  refine ⟨I.ok, I.os, I.bare, ⟨I.base.keep, I.base.slot, fun b o e n hx => ?_, I.base.there, fun b xs e => ?_, fun b o u e => ?_, fun b ps e => ?_⟩, I.loc, I.cell, ?_, fun x c e => ?_, fun p hp => ?_, fun b u e => ?_, I.len⟩
  · rw [upd_ne (fun z => by rw [z, h0] at e; cases e)]
    exact I.base.free b o e n hx
  · have q := I.base.tups b xs e
    rw [upd_ne (ne q)]
    exact q
  · have q := I.base.frzs b o u e
    rw [upd_ne (ne q)]
    exact q
  · obtain ⟨m, q⟩ := I.base.tbls b ps e
    exact ⟨m, by rw [upd_ne (ne q)]; exact q⟩
  · rw [upd_ne (Ne.symm nL)]
    exact I.free
  · obtain ⟨v, o, ho, hv⟩ := I.cell x c e
    rw [upd_ne (fun z => by
      have z' : c = a := z
      rw [z'] at ho
      have ha' : s.heap.get? a = some oe := ha
      rw [ha'] at ho
      cases ho
      exact nC v hv)]
    exact I.freeC x c e
  · obtain ⟨e1, e2, e3⟩ := I.pin p (by
      rcases List.mem_append.mp hp with z | z
      · exact List.mem_append_left _ z
      · exact List.mem_append_right _ (List.mem_cons_of_mem _ z))
    exact ⟨e1, by rw [upd_ne (hne p hp)]; exact e2, e3⟩
  · by_cases hb : b = a
    · subst hb
      rw [upd_same] at e
      cases e
      exact exT_ok ha hz hd
    · rw [upd_ne hb] at e
      exact (I.hok b u e).stay (fun _ _ _ q => q) (fun c q => by rw [upd_ne (ne q)]; exact q) fun c xs q => by rw [upd_ne (ne q)]; exact q
end
/-- what the clause wishes: its error stands tracked behind the suite -/
def wAsK (K : PySem.W.Frag) (c : Value) (i : Nat) (ts : Addr → Value → Option Addr → TS) (Wout : WX) (D : Ends) : WX := fun cls d σ H =>
  ∃ (C : Addr) (b : Bool), cls = .ref C ∧ PySem.W.exmOne K cls c = some b ∧ (b = true → ∀ a, H a = none → ts a cls d { nx := fun σ' H' => D.nx (σ'.set i none) (upd H' a (exT a C d)), rt := D.rt, bk := fun σ' H' => D.bk (σ'.set i none) H', ct := fun σ' H' => D.ct (σ'.set i none) H' } (σ.set i (some (.ref a))) H) ∧
    (b = false → Wout cls d σ H)
section
variable {X : Cx} {x n : Str} {c : Value} {i : Nat} {body suite : List Stmt} {b₀ : Stmt} {np pos pos' : Pos} {tb : WX → TS} {ts : Addr → Value → Option Addr → TS} {Wout : WX}
theorem ps_tryK (hex : X.ex = []) (hs : X.stack = X.env :: X.outer) (hf : X.env.frame = some X.env.locals) (hN : X.N.Nodup) (hi : X.N[i]? = some n) (hln : X.env.kindOf n = some .local) (hc : Names X x c) (tk : Takes X Wout)
    (hb : ∀ (W : WX) (pn : List (Addr × Obj)) (xe : Value → Shared → Prop), Takes (X.tr pn xe) W → PassesOwn (model X.prog X.w) X.A X.env xe → PSs (X.tr pn xe) body (tb W))
    (hsu : ∀ (a : Addr) (oe : Obj) (cls : Value) (d : Option Addr) (pn : List (Addr × Obj)), Zc cls d oe → (∃ vs, oe.data = .fields vs) → PSs (X.suite a ((a, oe) :: pn)) (b₀ :: suite) (ts a cls d)) :
    PS X (.Try body [.ExceptHandler (some (.Name x np)) (some n) (b₀ :: suite) pos'] [] [] pos) (fun D σ H => tb (wAsK X.K c i ts Wout D) D σ H) := by
  refine ⟨fun pins s σ H D I h => ?_⟩
  have ok := I.ok
  have hfr : X.A.frames = some (X.env :: X.outer) := by rw [ok.frames, hs]
  have hloc : Loc X.env.scope n := .inl hln
  refine wpAny_Try_except ?_
  refine wpAny_mono ((hb (wAsK X.K c i ts Wout D) (X.pn ++ pins) (fun e s₁ => wpAny (model X.prog X.w) X.A (noteFrame e X.env) (fun _ s₂ => wpAny (model X.prog X.w) X.A (setFlight e none) (fun _ s₃ =>
    wpAny (model X.prog X.w) X.A (handleBy e X.env [.ExceptHandler (some (.Name x np)) (some n) (b₀ :: suite) pos']) (SP X pins D) X.xe s₃) X.xe s₂) X.xe s₁) (fun u s' xx => ?_) PassesOwn.looking).run [] s σ H D (I.toTry _) h) (fun f s1 hsp => ?_) (fun e s1 he => he)
  · obtain ⟨a, B, sI, pins', σ', H', cls, d, rfl, J', nb, up, sky, na, os, ag, C, b, hcls, hb1, hyes, hno⟩ := xx
    have J : Inv X pins σ' H' sI := J'.ofTry ok
    have sky' : Sky B (X.env :: X.outer) a (Zc cls d) X.env.locals s'.heap := by rw [← hs]; exact sky
    show wpAny (model X.prog X.w) X.A (noteFrame (.ref a) X.env) _ _ _
    refine Sky.land Zc.steady hfr hf sky' fun h3 fl3 up3 => ?_
    have J3 : Inv X pins σ' H' { s' with heap := h3 } := J.landed nb fl3.1 (up.trans up3) os ag
    obtain ⟨oe3, vs3, he3, hz3, hd3⟩ := fl3.there
    have notFr : ∀ {h : Heap} {o : Obj} {vs : Array Value}, h.FunFrames B (X.env :: X.outer) → h.get? a = some o → o.data = .fields vs → a ∉ frs (X.env :: X.outer) := fun {h o vs} ff e dd hm => by
      obtain ⟨_, o', e', hnf⟩ := ff.mem hm
      rw [e] at e'
      cases e'
      exact hnf _ dd
    have nfr := notFr fl3.2.2.1 he3 hd3
    have nL : a ≠ X.env.locals := fun z => nfr (List.mem_filterMap.mpr ⟨X.env, List.mem_cons_self, by rw [hf, z]⟩)
    have nF : a ∉ X.fs := fun hm => by
      obtain ⟨e, he, q⟩ := List.mem_filterMap.mp hm
      exact nfr (List.mem_filterMap.mpr ⟨e, List.mem_cons_of_mem _ he, q⟩)
    -- the error is new to this def
    have nI : sI.heap.get? a = none := by
      cases e : sI.heap.get? a with
      | none => rfl
      | some o =>
        have z := nb a o e (by rw [hs]; exact nfr)
        have z2 : B.get? a = none := fl3.2.1
        rw [z2] at z
        cases z
    have n0 : X.s_0.heap.get? a = none := by
      cases e : X.s_0.heap.get? a with
      | none => rfl
      | some o =>
        obtain ⟨o', z⟩ := J.base.there a o e (by rw [hex]; exact fun z => nomatch z)
        rw [nI] at z
        cases z
    have npin : ∀ p ∈ X.pn ++ pins, p.1 ≠ a := fun p hp z => by
      obtain ⟨e, _⟩ := J.pin p hp
      rw [z, nI] at e
      cases e
    have S3 := J3.suite he3 hd3 na nL nF
    refine wpAny_handleBy_cons (codeAny_handlers_test ?_) (by intro q; cases q)
    have LT : PySem.W.Looks (model X.prog X.w) h3 (typeOf (.ref a)) cls := fun A Q E s k q => wpAny_typeOf_ref (k _ _ he3) (by rw [hz3.1]; exact q)
    have LM := PySem.W.exm_one (M := model X.prog X.w) (J3.kIn) LT hb1
    have test : ∀ {Q : Value → Shared → Prop} {E : Value → Shared → Prop}, Q c { s' with heap := h3 } → wpAny (model X.prog X.w) (X.A.mark (some (.ref a))) (eval (.Name x np) X.env) Q E { s' with heap := h3 } := fun {Q E} q => by
      obtain ⟨hg, hdbg, hm | ⟨hm, hv, hnn⟩⟩ := hc
      · exact ld_glob (X := X.suite a ((a, oe3) :: (X.pn ++ pins))) S3 hg hm q hdbg
      · exact ld_blt (X := X.suite a ((a, oe3) :: (X.pn ++ pins))) S3 hg hm hv q hnn hdbg
    refine test (LM.here ?_)
    cases b with
    | true =>
      refine codeAny_handlers_suite_as ?_
      refine HandSPX.lands_againZ fl3 fun h4 fl4 up4 => ?_
      have J4 : Inv X pins σ' H' { s' with heap := h4 } := J.landed nb fl4.1 ((up.trans up3).trans up4) os ag
      obtain ⟨oe4, vs4, he4, hz4, hd4⟩ := fl4.there
      have S4 := J4.suite he4 hd4 na nL nF
      refine store_ok (X := X.suite a ((a, oe4) :: (X.pn ++ pins))) (v := .ref a) S4 hN hi hloc rfl (fun s5 S5 => ?_) (.inr hln)
      refine wpAny_mono ((hsu a oe4 cls d (X.pn ++ pins) hz4 ⟨_, hd4⟩).run [] s5 _ H' _ S5 (hyes rfl a na)) (fun f s6 hsp => ?_) (fun _ _ z => False.elim z)
      have end_ : ∀ {σ6 : L2.St} {H6 : Hp} {Q : Shared → Prop}, Inv (X.suite a ((a, oe4) :: (X.pn ++ pins))) [] σ6 H6 s6 → (∀ s7, Inv X ((a, oe4) :: pins) (σ6.set i none) H6 s7 → Q s7) →
          wpAny (model X.prog X.w) X.A (do bindName X.env n .none; unbindBehindTheSuite X.env n pos') (fun _ s7 => Q s7) X.xe s6 := fun {σ6 H6 Q} S6 hq => by
        have J6 : Inv X ((a, oe4) :: pins) σ6 H6 s6 := (S6.unsuite ok).pins_of fun p hp => S6.pin p (List.mem_append_left _ (by
          rcases List.mem_cons.mp hp with z | z
          · exact List.mem_cons.mpr (.inl z)
          · exact List.mem_cons_of_mem _ (List.mem_append_right _ z)))
        exact gone_ok J6 hN hi hln hq
      have drop : ∀ {σ7 : L2.St} {H7 : Hp} {s7 : Shared}, Inv X ((a, oe4) :: pins) σ7 H7 s7 → Inv X pins σ7 H7 s7 := fun J7 => J7.pins_of fun p hp => J7.pin p (List.mem_append_right _ (List.mem_cons_of_mem _ hp))
      subst hcls
      cases f with
      | next =>
        obtain ⟨σ6, H6, S6, q6⟩ := hsp
        exact end_ S6 fun s7 J7 => ⟨_, _, track J7 n0 npin hz4 hd4, q6⟩
      | brk =>
        obtain ⟨σ6, H6, S6, q6⟩ := hsp
        exact end_ S6 fun s7 J7 => ⟨_, _, drop J7, q6⟩
      | cont =>
        obtain ⟨σ6, H6, S6, q6⟩ := hsp
        exact end_ S6 fun s7 J7 => ⟨_, _, drop J7, q6⟩
      | ret u =>
        obtain ⟨v6, σ6, H6, S6, r6, q6⟩ := hsp
        exact end_ S6 fun s7 J7 => ⟨_, _, _, drop J7, r6, q6⟩
    | false =>
      show wpAny _ X.A (handleBy (.ref a) X.env []) _ _ _
      refine wpAny_handleBy_nil ?_
      obtain ⟨k1, k2, k3, oe, vs, T, oT, ts', he, hz, hd, h1, hr⟩ := id fl3
      unfold PySem.passOn
      refine wpAny_bind (wpAny_field he hd h1 ?_)
      rw [if_neg (show ¬ ((Value.ref T == Value.none) = true) from by simp)]
      have fin : wpAny (model X.prog X.w) X.A (setFlight (.ref a) X.env.frame) (fun _ s4 => wpAny (model X.prog X.w) X.A (throw (.ref a) : Sem Flow) (SP X pins D) X.xe s4) X.xe { s' with heap := h3 } := by
        rw [hf]
        refine HandSPX.setFlight_upZ fl3 fun h4 hh4 up4 => wpAny_throw (tk _ _ ?_)
        exact ⟨a, B, sI, pins, σ', H', cls, d, rfl, J, nb, (up.trans up3).trans up4, .inr (.inr (by rw [hs]; exact hh4)), na, os, ag, hno rfl⟩
      first
        | exact wpAny_bind (wpAny_pure (wpAny_bind fin))
        | exact wpAny_bind fin
  · cases f with
    | next =>
      obtain ⟨σ', H', J', q⟩ := hsp
      exact wpAny_execs_nil ⟨σ', H', J'.ofTry ok, q⟩
    | brk =>
      obtain ⟨σ', H', J', q⟩ := hsp
      exact ⟨σ', H', J'.ofTry ok, q⟩
    | cont =>
      obtain ⟨σ', H', J', q⟩ := hsp
      exact ⟨σ', H', J'.ofTry ok, q⟩
    | ret u =>
      obtain ⟨v, σ', H', J', r, q⟩ := hsp
      exact ⟨v, σ', H', J'.ofTry ok, r, q⟩
end
end Tw
/-! Tw: instances of own classes: == and != by an own __eq__, str by an own __str__, made where __init__ may raise. -/
namespace Tw
open PySem PySem.Spec PyProof.Rows L2
/-- the type of anything that is known -/
def TyA (K : PySem.W.Frag) (H : Hp) (x : V) (t : Value) : Prop := TyX K H x t ∨ ∃ (a C : Addr) (d : Addr) (fs : List (Str × V)), x = .ref a ∧ t = .ref C ∧ IsX H a C (some d) ∧ IsXd H d fs ∧ XC K C ∧ XO K
section
variable {X : Cx} {CX : CXT} {pins : List (Addr × Obj)} {σ : L2.St} {H : Hp} {s : Shared} {k : Nat} {f C : Addr} {fd : FuncData} {ps : List Str} {sp : Sp} {E : XK}
theorem tyA_looks {x : V} {u t : Value} (I : Inv X pins σ H s) (r : RelV x u) (ty : TyA X.K H x t) (M : Model) : PySem.W.Looks M s.heap (typeOf u) t := by
  rcases ty with ty | ⟨a, C, d, fs, rfl, rfl, ia, idd, T, O⟩
  · obtain ⟨P, Z, p, _⟩ := kit_of I r ty
    exact Z.ty M s.heap I.kIn p
  · cases (show u = Value.ref a from r)
    obtain ⟨oe, vs, ho, hz, hdt⟩ := ia.get I.hok
    exact fun A Q E s k q => wpAny_typeOf_ref (k _ _ ho) (by rw [hz.1]; exact q)
theorem inst_at (I : Inv X pins σ H s) {a dx : Addr} {fs : List (Str × V)} (e : H a = some (.ins C dx fs)) : ∃ od ox, PySem.W.InstAt s.heap a ox C (some od) := by
  obtain ⟨mA, O, _⟩ := ins_get I.hok e
  obtain ⟨od, J, _⟩ := O.look
  exact ⟨od, _, J⟩
/-- a def run one deeper within a built-in -/
theorem run_in1 {Q : VK} {us : List Value} {vs : List V} (F : FnOk X.prog X.w X.K X.mg X.base CX k f fd ps sp) (hr : Room (k + 1) X.A) (hb : Binds X.K fd ps []) (hx : Passes CX X E) (I : Inv X pins σ H s) (r : Vals vs us) (h : sp vs H Q E) :
    wpAny (model X.prog X.w) X.A.in1 (call (.ref f) us) (EP X pins σ Q) X.xe s := by
  have hl : us.length = ps.length := r.length.symm.trans (F.len _ _ _ _ h)
  have b := hb s us I.kIn (by rw [List.append_nil]; exact hl)
  rw [List.append_nil] at b
  refine wpAny_call (codeAny_mono (F.run X.A.in1 X.stack s H ⟨us, []⟩ us vs Q E hr.in1 I.env0.in1 b r h) fun r s' hq => ?_)
  match r, hq with
  | .error e, hq => exact hx pins σ H s e s' I hq
  | .ok (.ret u), hq => exact I.after hq
theorem run_in2 {Q : VK} {us : List Value} {vs : List V} (F : FnOk X.prog X.w X.K X.mg X.base CX k f fd ps sp) (hr : Room (k + 2) X.A) (hb : Binds X.K fd ps []) (hx : Passes CX X E) (I : Inv X pins σ H s) (r : Vals vs us) (h : sp vs H Q E) :
    wpAny (model X.prog X.w) X.A.in1.in1 (call (.ref f) us) (EP X pins σ Q) X.xe s := by
  have hl : us.length = ps.length := r.length.symm.trans (F.len _ _ _ _ h)
  have b := hb s us I.kIn (by rw [List.append_nil]; exact hl)
  rw [List.append_nil] at b
  have hr1 : Room (k + 1) X.A.in1 := Room.in1 hr
  refine wpAny_call (codeAny_mono (F.run X.A.in1.in1 X.stack s H ⟨us, []⟩ us vs Q E hr1.in1 I.env0.in1.in1 b r h) fun r s' hq => ?_)
  match r, hq with
  | .error e, hq => exact hx pins σ H s e s' I hq
  | .ok (.ret u), hq => exact I.after hq
/-- x == y by x's own __eq__ -/
def rEqOwn (K : PySem.W.Frag) (C : Addr) (sp : Sp) (E : XK) : R2 := fun x y H Q => ∃ (a dx : Addr) (fs : List (Str × V)) (t : Value), x = .ref a ∧ H a = some (.ins C dx fs) ∧ TyA K H y t ∧ PySem.W.notFirst K C t = true ∧ sp [x, y] H Q E
theorem op_eqOwn (hs : PySem.W.findIn X.K (.ref C) "__eq__" = some (some (.ref f))) (hf : PySem.W.isFn X.K (.ref f) = true) (F : FnOk X.prog X.w X.K X.mg X.base CX k f fd ps sp) (hr : Room k X.A) (hb : Binds X.K fd ps []) (hx : Passes CX X E) : OpR X (compareOp .Eq) (rEqOwn X.K C sp E) := by
  intro pins s σ H x y v u Q I rx ry h
  obtain ⟨a, dx, fs, t, rfl, ea, ty, hn, q⟩ := h
  cases (show v = Value.ref a from rx)
  obtain ⟨od, ox, J⟩ := inst_at I ea
  obtain ⟨m, hF⟩ := I.fr
  show wpAny _ _ (richCompare .Eq _ _) _ _ _
  refine PySem.W.cmp_K (op := .Eq) (tb := t) hr.units0 hF I.ok.mod.kin J (tyA_looks I ry ty _) hn hs hf ?_
  refine wpAny_mono (run_fn (dvs := []) (ds := []) (us := [.ref a, u]) (vs := [.ref a, y]) F hr hb .nil hx I (.cons rfl (.cons ry .nil)) q) (fun w s' z => ?_) fun _ _ x => x
  obtain ⟨z', H', I', rz, qz⟩ := z
  exact SlX.cmpback rz ⟨z', H', I', rz, qz⟩
/-- x != y: object.__ne__ asks x's own __eq__ -/
def rNeOwn (K : PySem.W.Frag) (C : Addr) (sp : Sp) (E : XK) : R2 := fun x y H Q => ∃ (a dx : Addr) (fs : List (Str × V)) (t : Value), x = .ref a ∧ H a = some (.ins C dx fs) ∧ TyA K H y t ∧ PySem.W.notFirst K C t = true ∧ sp [x, y] H (fun z H' => ∃ b, z = .bl b ∧ Q (.bl (!b)) H') E
theorem ifBound_objNe {K : PySem.W.Frag} {M : Model} {A : Around} {E : Value → Shared → Prop} {s : Shared} {x : Addr} {ox : Obj} {od : Option Obj} {args : List Value} {Q : Option Value → Shared → Prop} (Y : K.In s.heap) (I : PySem.W.InstAt s.heap x ox C od) (hs : PySem.W.findIn K (.ref C) "__ne__" = some (some (.builtin "object.__ne__")))
    (h : wpAny M A (call (.builtin "object.__ne__") (.ref x :: args)) (fun v => Q (some v)) E s) : wpAny M A (callSpecialIfBound? (.ref x) "__ne__" args) Q E s := by
  simp only [callSpecialIfBound?, bindSpecialIfBound?]
  refine wpAny_holding (wpAny_bind (wpAny_bind (wpAny_bind (I.type.here ((PySem.W.looks_findIn Y hs).here ?_)))))
  refine wpAny_bind (wpAny_askSetting (wpAny_ite ?_))
  have fin : wpAny M A (call (.builtin "object.__ne__") ([.ref x] ++ args) >>= fun v => pure (some v)) Q E s := wpAny_bind (wpAny_mono h (fun v s' h' => wpAny_pure h') fun _ _ h' => h')
  split
  · exact wpAny_bind (wpAny_of_eq (F.cmp_object.ne.bind _) (wpAny_pure (by exact fin)))
  · exact wpAny_tryCatch (wpAny_bind (wpAny_of_eq (F.cmp_object.ne.bind _) (wpAny_pure (by exact fin))))
theorem ne_entry {K : PySem.W.Frag} {prog : Program} {w : World} {A : Around} {E : Value → Shared → Prop} {s : Shared} {x : Addr} {ox : Obj} {od : Option Obj} {b : Value} {Q : Fin → Shared → Prop} (hu : A.units < cLine) (Y : K.In s.heap) (I : PySem.W.InstAt s.heap x ox C od)
    (hs : PySem.W.findIn K (.ref C) "__eq__" = some (some (.ref f))) (hf : PySem.W.isFn K (.ref f) = true)
    (h : wpAny (model prog w) A (call (.ref f) [.ref x, b]) (fun v s' => ∃ c, v = .bool c ∧ Q (.done (.ret (.bool (!c)))) s') E s) : wpAny (model prog w) A (Builtin.«object.__ne__» ⟨[.ref x, b], []⟩) Q E s := by
  unfold Builtin.«object.__ne__»
  repeat (first
    | with_reducible refine wpAny_cRoomFor hu ?_
    | (refine wpAny_bind (m := callSpecialIfBound? (.ref x) (Str.ofString "__eq__") [b])
        (PySem.W.ifBound_K Y I hs hf (wpAny_mono h (fun r s' hr => by
          obtain ⟨b, rfl, hq⟩ := hr
          repeat (first | exact hq | exact wpAny_pure hq | exact wpAny_truthy_bool hq | (refine wpAny_bind (m := truthy (.bool _)) (wpAny_truthy_bool ?_)) | wp_step)) fun _ _ e => e)))
    | wp_step)
theorem ne_own {x : Addr} {ox : Obj} {od : Option Obj} {b tb : Value} {K : PySem.W.Frag} {prog : Program} {w : World} {A : Around} {E : Value → Shared → Prop} {s : Shared} {Q : Value → Shared → Prop} (hu : A.units + 1 < cLine) (Y : K.In s.heap) (I : PySem.W.InstAt s.heap x ox C od) (hb : PySem.W.Looks (model prog w) s.heap (typeOf b) tb) (hn : PySem.W.notFirst K C tb = true)
    (hne : PySem.W.findIn K (.ref C) "__ne__" = some (some (.builtin "object.__ne__"))) (hs : PySem.W.findIn K (.ref C) "__eq__" = some (some (.ref f))) (hf : PySem.W.isFn K (.ref f) = true) (hm : PySem.W.mroIn K C (.type "object") = some true)
    (h : wpAny (model prog w) A.in1 (call (.ref f) [.ref x, b]) (fun v s' => ∃ c, v = .bool c ∧ Q (.bool (!c)) s') E s) : wpAny (model prog w) A (richCompare .NotEq (.ref x) b) Q E s := by
  have one : wpAny (model prog w) A (tryCompare (.ref x) (cmpInfo .NotEq).2.1 b) (fun r s' => ∃ v, r = some v ∧ Q v s') E s := by
    unfold tryCompare
    refine wpAny_bind (ifBound_objNe Y I hne (wpAny_call (codeAny_call_builtin F.cmp_object.ne.plain F.cmpEntry_ne (PySem.W.check_slot F.cmpKind_ne F.cmpSplit_ne (I.type.andThen (PySem.W.looks_mroIn Y hm)) (F.cmpArgs_ne _ _)
      (ne_entry (A := A.in1) hu Y I hs hf (wpAny_mono h (fun v s' hv => ?_) fun _ _ e => e))))))
    obtain ⟨c, rfl, hq⟩ := hv
    first | exact ⟨c, rfl, wpAny_pure ⟨_, rfl, hq⟩⟩ | exact ⟨c, rfl, wpAny_pure (wpAny_pure ⟨_, rfl, hq⟩)⟩ | exact ⟨c, rfl, ⟨_, rfl, hq⟩⟩
  unfold richCompare
  simp only [oneThing_ref]
  refine wpAny_holding (wpAny_bind (wpAny_cRoomFor (Nat.lt_of_succ_lt hu) ?_))
  refine wpAny_bind (I.type.here (wpAny_bind (hb.here ?_)))
  split
  · rename_i q
    have e : PySem.W.subIn K tb (.ref C) = some false := by
      rcases Bool.or_eq_true_iff.mp hn with e | e
      · rw [beq_iff_eq.mp e] at q; simp at q
      · exact beq_iff_eq.mp e
    refine wpAny_bind ((PySem.W.looks_subIn Y e).here ?_)
    simp only [Bool.false_eq_true, if_false]
    refine wpAny_bind (wpAny_mono one (fun r s' z => ?_) fun _ _ e => e)
    obtain ⟨v, rfl, hq⟩ := z
    exact wpAny_pure hq
  · refine wpAny_bind (wpAny_pure ?_)
    simp only [Bool.false_eq_true, if_false]
    refine wpAny_bind (wpAny_mono one (fun r s' z => ?_) fun _ _ e => e)
    obtain ⟨v, rfl, hq⟩ := z
    exact wpAny_pure hq
theorem op_neOwn (hne : PySem.W.findIn X.K (.ref C) "__ne__" = some (some (.builtin "object.__ne__"))) (hs : PySem.W.findIn X.K (.ref C) "__eq__" = some (some (.ref f))) (hf : PySem.W.isFn X.K (.ref f) = true) (hm : PySem.W.mroIn X.K C (.type "object") = some true)
    (F : FnOk X.prog X.w X.K X.mg X.base CX k f fd ps sp) (hr : Room (k + 1) X.A) (hb : Binds X.K fd ps []) (hx : Passes CX X E) : OpR X (compareOp .NotEq) (rNeOwn X.K C sp E) := by
  intro pins s σ H x y v u Q I rx ry h
  obtain ⟨a, dx, fs, t, rfl, ea, ty, hn, q⟩ := h
  cases (show v = Value.ref a from rx)
  obtain ⟨od, ox, J⟩ := inst_at I ea
  show wpAny _ _ (richCompare .NotEq _ _) _ _ _
  refine ne_own (tb := t) (Nat.lt_of_le_of_lt (Nat.le_refl _) hr.in1.units0) I.kIn J (tyA_looks I ry ty _) hn hne hs hf hm ?_
  refine wpAny_mono (run_in1 F hr hb hx I (.cons rx (.cons ry .nil)) q) (fun w s' z => ?_) fun _ _ x => x
  obtain ⟨z', H', I', rz, b, rfl, qz⟩ := z
  exact ⟨b, rz, .bl (!b), H', I', rfl, qz⟩
/-- str(x) by x's own __str__ -/
def rStrOwn (C : Addr) (sp : Sp) (E : XK) : List V → Hp → VK → Prop := fun xs H Q => ∃ (a dx : Addr) (fs : List (Str × V)), xs = [.ref a] ∧ H a = some (.ins C dx fs) ∧ sp [.ref a] H (fun z H' => ∃ c, z = .str c ∧ Q z H') E
theorem call_strOwn (hs : PySem.W.findIn X.K (.ref C) "__str__" = some (some (.ref f))) (hf : PySem.W.isFn X.K (.ref f) = true) (F : FnOk X.prog X.w X.K X.mg X.base CX k f fd ps sp) (hr : Room (k + 2) X.A) (hb : Binds X.K fd ps []) (hx : Passes CX X E) : CallR X (.type "str") (rStrOwn C sp E) := by
  intro pins s σ H xs us Q I r h
  obtain ⟨a, dx, fs, rfl, ea, q⟩ := h
  obtain ⟨u1, rfl, r1⟩ := vals1 r
  cases (show u1 = Value.ref a from r1)
  obtain ⟨od, ox, J⟩ := inst_at I ea
  have hr1 : Room (k + 1) X.A.in1 := Room.in1 hr
  refine PySem.W.kso_call hr1.in1.units0 I.kIn J hs hf ?_
  refine wpAny_mono (run_in2 F hr hb hx I (.cons r1 .nil) q) (fun w s' z => ?_) fun _ _ x => x
  obtain ⟨z', H', I', rz, c, ez, qz⟩ := z
  subst ez
  obtain ⟨t, rfl⟩ := rz
  exact ⟨.str c, H', I', ⟨_, rfl⟩, qz⟩
end
end Tw
/-! Tw: a text times a number; an object made where its __init__ may raise into a try. -/
namespace Tw
open PySem PySem.Spec PyProof.Rows L2
section
variable {X : Cx} {CX : CXT} {k : Nat} {f C : Addr} {fd : FuncData} {ps : List Str} {sp : Sp} {E : L2.St → XK} {x : Str} {p pos : Pos} {e : Expr} {es : List Expr} {t : TA}
theorem op_mul_str : OpR X (binaryOp .Mult) (fun x y H Q => ∃ (z : Str) (n : Int), x = .str z ∧ y = .int n ∧ MulOk z n ∧ Q (.str (Txt.mul z n)) H) := by
  intro pins s σ H x y v u Q I rx ry h
  obtain ⟨z, n, rfl, rfl, ok, q⟩ := h
  obtain ⟨t, rfl⟩ := rx
  obtain ⟨t', rfl⟩ := ry
  exact SB.mul ok fun t' tk => ⟨.str (Txt.mul z n), H, I.tok _, ⟨_, rfl⟩, q⟩
/-- C(..) where C.__init__ may raise -/
def tMakeS (C : Addr) (sp : Sp) (E : L2.St → XK) (t : TA) : TE := fun σ H Q => t σ H fun vs H1 => ∀ x dx, H1 x = none → H1 dx = none → dx ≠ x →
  sp (.ref x :: vs) (upd (upd H1 dx (.own x)) x (.ins C dx [])) (fun v H2 => v = .non ∧ Q (.ref x) H2) (E σ)
theorem run_makeS {pins : List (Addr × Obj)} {σ : L2.St} {H : Hp} {s : Shared} {Q : VK} {us : List Value} {vs : List V} (M : Mk X.K C f) (F : FnOk X.prog X.w X.K X.mg X.base CX k f fd ps sp) (hr : Room (k + 1) X.A) (hb : Binds X.K fd ps [])
    (hx : PassesAt CX X σ (E σ)) (I : Inv X pins σ H s) (r : Vals vs us)
    (h : ∀ x dx, H x = none → H dx = none → dx ≠ x → sp (.ref x :: vs) (upd (upd H dx (.own x)) x (.ins C dx [])) (fun v H2 => v = .non ∧ Q (.ref x) H2) (E σ)) :
    wpAny (model X.prog X.w) X.A (call (.ref C) us) (EP X pins σ Q) X.xe s := by
  have hq := h (s.heap.objs.size + 1) s.heap.objs.size (I.hok.fresh (Nat.le_succ _)) (I.hok.fresh (Nat.le_refl _)) (Nat.ne_of_lt (Nat.lt_succ_self _))
  have I2 := Inv.made (C := C) I
  have r2 : Vals (V.ref (s.heap.objs.size + 1) :: vs) (Value.ref (s.heap.objs.size + 1) :: us) := .cons rfl r
  have hl : (Value.ref (s.heap.objs.size + 1) :: us).length = ps.length := by
    have e := r2.length
    rw [F.len _ _ _ _ hq] at e
    exact e.symm
  have b := hb _ (Value.ref (s.heap.objs.size + 1) :: us) I2.kIn (by rw [List.append_nil]; exact hl)
  rw [List.append_nil] at b
  refine wpAny_call (make_map (f := f) I.kIn M.makes M.init (beq_iff_eq.mp M.fn) (codeAny_mono (F.run _ X.stack _ _ ⟨Value.ref (s.heap.objs.size + 1) :: us, []⟩ (Value.ref (s.heap.objs.size + 1) :: us) _ _ (E σ) (hr.make C us [])
    (I2.env0.make C us []) b r2 hq) fun r s' hq' => ?_))
  cases r with
  | error e => exact hx pins _ _ e s' I2 hq'
  | ok fl =>
    cases fl with
    | ret u =>
      obtain ⟨v, H', I3, rv, ev, q3⟩ := I2.after hq'
      subst ev
      exact ⟨rv, ⟨V.ref (s.heap.objs.size + 1), H', I3, rfl, q3⟩⟩
    | next => exact False.elim hq'
    | brk => exact False.elim hq'
    | cont => exact False.elim hq'
theorem pe_makeS (M : Mk X.K C f) (F : FnOk X.prog X.w X.K X.mg X.base CX k f fd ps sp) (hr : Room (k + 1) X.A) (hg : Gl X x) (hm : X.mg x = some (.ref C)) (hb : Binds X.K fd ps []) (hx : ∀ σ, PassesAt CX X σ (E σ))
    (ha : PA X (e :: es) t) (hdb : (x == ("__debug__" : Str)) = false := by decide) (he : starEach (e :: es) X.env = (false, eval e X.env) :: starEach es X.env := by rfl) (hpl : (backTo pos (starEach es X.env)).any (·.1) = false := by rfl) :
    PE X (.Call (.Name x p) (e :: es) [] pos) (tMakeS C sp E t) := by
  refine ⟨fun pins s σ H Q I h => ?_⟩
  refine wpAny_Call_Name_kw (ld_glob I hg hm ?_ hdb)
  refine PySem.W.callWith_K (h₀ := X.base) I.ok.mod.kin M.kp (thn (ha.run pos pins s σ H _ I h) fun us s1 ⟨vs, H1, I1, r, q⟩ => ⟨I1.kIn, ?_⟩) he hpl
  exact run_makeS M F hr hb (hx σ) I1 r q
end
/-- a comprehension over a text, sign by sign -/
theorem lcStr {z : Str} {g : TG} {tt : TT} {te : TE} {ws : List Nat} {ρ : L2.St} {G : Hp} {D : Addr} {R : Hp → Prop} (P : Nat → Hp → Prop) (first : P 0 (upd G D (.lst [])))
    (step : ∀ i c H, z.cps[i]? = some c → P i H → g (.str ⟨#[c]⟩) (wipe ρ ws) H fun σ2 H2 => wipe σ2 ws = wipe ρ ws ∧ tt σ2 H2 fun b H3 => if b = true then te σ2 H3 fun y H4 => ∃ acc, H4 D = some (.lst acc) ∧ acc.length < sizeLine ∧ P (i + 1) (upd H4 D (.lst (acc ++ [y]))) else P (i + 1) H3)
    (last : ∀ H, P z.cps.size H → R H) :
    ∃ W : Nat → Nat → Hp → Prop, (∃ m, W 0 m (upd G D (.lst []))) ∧ ∀ i m H, W i m H → ((Its z).stop i H ∧ R H) ∨ ((Its z).go i H ∧ ∃ Nx : Hp → Prop, (∀ H', Nx H' → ∃ m', m' < m ∧ W (i + 1) m' H') ∧ ∀ x H', (Its z).yld i H x H' →
      g x (wipe ρ ws) H' fun σ2 H2 => wipe σ2 ws = wipe ρ ws ∧ tt σ2 H2 fun b H3 => if b = true then te σ2 H3 fun y H4 => ∃ acc, H4 D = some (.lst acc) ∧ acc.length < sizeLine ∧ Nx (upd H4 D (.lst (acc ++ [y]))) else Nx H3) := by
  refine ⟨fun i m H => m = z.cps.size - i ∧ i ≤ z.cps.size ∧ P i H, ⟨_, rfl, Nat.zero_le _, first⟩, ?_⟩
  rintro i m H ⟨rfl, hi, p⟩
  rcases Nat.lt_or_ge i z.cps.size with lt | ge
  · refine .inr ⟨lt, P (i + 1), fun H' p' => ⟨_, Nat.sub_succ_lt_self _ _ lt, rfl, lt, p'⟩, fun x H' ⟨e, c, ec, ex⟩ => ?_⟩
    subst e ex
    exact step i c _ ec p
  · exact .inl ⟨ge, last H (Nat.le_antisymm hi ge ▸ p)⟩
/-- values whose class is a built-in one -/
inductive Bv (H : Hp) : V → String → Prop where
  | non : Bv H .non "NoneType"
  | bl (b : Bool) : Bv H (.bl b) "bool"
  | int (i : Int) : Bv H (.int i) "int"
  | str (z : Str) : Bv H (.str z) "str"
  | lst {a : Addr} {xs : List V} (e : H a = some (.lst xs)) : Bv H (.ref a) "list"
  | tup {a : Addr} {xs : List V} (e : H a = some (.tup xs)) : Bv H (.ref a) "tuple"
  | dK {a : Addr} {kvs : List (Key × V)} (e : H a = some (.dK kvs)) : Bv H (.ref a) "dict"
theorem Bv.ty {K : PySem.W.Frag} {H : Hp} {x : V} {T : String} (h : Bv H x T) : TyX K H x (.type T) := by
  cases h with
  | non => exact .base .non
  | bl b => exact .base (.bl b)
  | int i => exact .base (.int i)
  | str z => exact .base (.str z)
  | lst e => exact .base (.lst e)
  | tup e => exact .base (.tup e)
  | dK e => exact .base (.dK e)
theorem Bv.same {H H' : Hp} {x : V} {T : String} (s : Same H H') (h : Bv H x T) : Bv H' x T := by
  cases h with
  | non => exact .non
  | bl b => exact .bl b
  | int i => exact .int i
  | str z => exact .str z
  | lst e => exact .lst (s _ _ e)
  | tup e => exact .tup (s _ _ e)
  | dK e => exact .dK (s _ _ e)
def isI : V → Bool
  | .int _ => true
  | _ => false
def isB : V → Bool
  | .bl _ => true
  | _ => false
def isS : V → Bool
  | .str _ => true
  | _ => false
/-- isinstance against a built-in class, by the value -/
theorem Bv.kits {K : PySem.W.Frag} {H : Hp} {x : V} {T : String} (h : Bv H x T) : PySem.W.kitOne K (.type T) (.type "str") = some (isS x) ∧ PySem.W.kitOne K (.type T) (.type "bool") = some (isB x) ∧ PySem.W.kitOne K (.type T) (.type "int") = some (isI x || isB x) := by
  cases h with
  | non => exact ⟨kit_ty (r := false) (by decide +kernel), kit_ty (r := false) (by decide +kernel), kit_ty (r := false) (by decide +kernel)⟩
  | bl b => exact ⟨kit_ty (r := false) (by decide +kernel), kit_ty (r := true) (by decide +kernel), kit_ty (r := true) (by decide +kernel)⟩
  | int i => exact ⟨kit_ty (r := false) (by decide +kernel), kit_ty (r := false) (by decide +kernel), kit_ty (r := true) (by decide +kernel)⟩
  | str z => exact ⟨kit_ty (r := true) (by decide +kernel), kit_ty (r := false) (by decide +kernel), kit_ty (r := false) (by decide +kernel)⟩
  | lst e => exact ⟨kit_ty (r := false) (by decide +kernel), kit_ty (r := false) (by decide +kernel), kit_ty (r := false) (by decide +kernel)⟩
  | tup e => exact ⟨kit_ty (r := false) (by decide +kernel), kit_ty (r := false) (by decide +kernel), kit_ty (r := false) (by decide +kernel)⟩
  | dK e => exact ⟨kit_ty (r := false) (by decide +kernel), kit_ty (r := false) (by decide +kernel), kit_ty (r := false) (by decide +kernel)⟩
end Tw
/-! Tw: a method called by keywords alone. -/
namespace Tw
open PySem PySem.Spec PyProof.Rows L2
section
variable {K : PySem.W.Frag} {x qual : Str} {params : Arguments} {body : List Stmt} {scope : Scope} {f : Addr} {fd : FuncData} {ps : List Str}
theorem kbNone (F : FunD K x qual params body scope [] [] f fd) (n : Nat) (ks : List Str)
    (h : ∀ (kV doc pm : Value) (an : Option Addr) (cdv ct : Value) (us ws : List Value), us.length = n → ws.length = ks.length → bindArgs (PySem.W.fnOf x qual params body scope .none kV doc pm an cdv ct) ⟨us, ks.zip ws⟩ = pure (ps.zip (us ++ ws))) :
    KBn K fd ps n ks (fun us ws => us ++ ws) (fun vs zs => vs ++ zs) := by
  obtain ⟨oc, od, dV, kV, doc, pm, an, cdv, ct, osl, rfl, lk, hcd, hD, hK⟩ := F.ex
  rcases hD with ⟨_, rfl⟩ | ⟨e, _⟩
  · exact ⟨fun s us ws X l1 l2 => .of_eq (h kV doc pm an cdv ct us ws l1 l2), fun r1 r2 => r1.append r2⟩
  · exact absurd rfl e
end
/-- o.m(k = v, ..) -/
def tMethN (C : Addr) (m : Str) (n : Nat) (sp : Sp) (gV : List V → List V → List V) (E : XK) (ta : TE) (tk : TA) : TE := fun σ H Q => ta σ H fun x H1 => ∃ (a dx : Addr) (fs : List (Str × V)), x = .ref a ∧ H1 a = some (.ins C dx fs) ∧ fs.lookup m = none ∧
  tk σ H1 fun zs H2 => zs.length = n ∧ sp (gV [.ref a] zs) H2 Q E
section
variable {X : Cx} {CX : CXT} {k : Nat} {f C : Addr} {fd : FuncData} {ps ks : List Str} {sp : Sp} {E : XK} {m : Str} {pos apos : Pos} {o : Expr} {kws : List Keyword} {ta : TE} {tk : TA} {g : List Value → List Value → List Value} {gV : List V → List V → List V}
theorem pe_methN {pl : Sem Bool} (he : PE X o ta) (c : Cls X.K C) (hm : Meth X.K C m f) (F : FnOk X.prog X.w X.K X.mg X.base CX k f fd ps sp) (hr : Room k X.A) (hb : KBn X.K fd ps 1 ks g gV) (hx : Passes CX X E) (hkw : PK X kws tk)
    (hall : (backToKw pos (keywordEach kws X.env)).all (·.1.isSome) = true := by rfl) (hks : (backToKw pos (keywordEach kws X.env)).filterMap (·.1) = ks := by rfl)
    (hpl : ((backTo pos (starEach [] X.env)).any (·.1) || (backToKw pos (keywordEach kws X.env)).any (·.1.isNone)) = false := by rfl)
    (ht : eval (.Call (.Attribute o m apos) [] kws pos) X.env = (do
      let v ← eval o X.env
      standAt apos.atName
      let (h, front) ← holding [v] (getMethod v m pl)
      callWith pos h front (backTo pos (starEach [] X.env)) (backToKw pos (keywordEach kws X.env))) := by rfl) :
    PE X (.Call (.Attribute o m apos) [] kws pos) (tMethN C m ks.length sp gV E ta tk) := by
  refine ⟨fun pins s σ H Q I h => ?_⟩
  refine PySem.W.methodCall_KW (pl := pl) (thn (he.run pins s σ H _ I h) fun u s1 ⟨x, H1, I1, rx, a, dx, fs, ex, ea, l, q⟩ => ?_) ht
  subst ex
  cases (show u = Value.ref a from rx)
  refine getmeth_ok I1 ea c hm l ?_
  refine PySem.W.callWith_KW0 (h₀ := X.base) (first := [.ref a]) I1.ok.mod.kin hm.kp hall (thn (hkw.run pos pins s1 σ H1 _ I1 q) fun ws s2 ⟨zs, H2, I2, rz, l2, q2⟩ => ⟨I2.kIn, ?_⟩) hpl
  rw [hks]
  exact run_fnN (us := [.ref a]) (vs := [.ref a]) F hr hb hx I2 (.cons rx .nil) rz rfl l2 q2
end
/-- == by an own __eq__, where the context is a comprehension's: what it knows is named -/
theorem eqOwnK {X : Cx} {CX : CXT} {k : Nat} {f C : Addr} {fd : FuncData} {ps : List Str} {sp : Sp} {E : XK} (P : Program) (w : World) (K : PySem.W.Frag) (mg : Str → Option Value) (base : Heap) (hs : PySem.W.findIn K (.ref C) "__eq__" = some (some (.ref f))) (hf : PySem.W.isFn K (.ref f) = true)
    (F : FnOk P w K mg base CX k f fd ps sp) (hr : Room k X.A) (hb : Binds K fd ps []) (hx : Passes CX X E) (e1 : X.prog = P := by rfl) (e2 : X.w = w := by rfl) (e3 : X.K = K := by rfl) (e4 : X.mg = mg := by rfl) (e5 : X.base = base := by rfl) : OpR X (compareOp .Eq) (rEqOwn K C sp E) := by
  subst e1 e2 e3 e4 e5
  exact op_eqOwn hs hf F hr hb hx
/-! lists of bools -/
theorem dpBools {K : PySem.W.Frag} {H : Hp} : ∀ bs : List Bool, DpAll K H (bs.map V.bl) (bs.map PyData.bool)
  | [] => .nil
  | b :: bs => .cons (.bl b) (dpBools bs)
theorem layBools : ∀ bs : List Bool, PyData.canLayAll0 (bs.map PyData.bool) = true ∧ PyData.depthAll (bs.map PyData.bool) = 0
  | [] => ⟨rfl, rfl⟩
  | b :: bs => by
    obtain ⟨h1, h2⟩ := layBools bs
    constructor
    · simp only [List.map_cons, PyData.canLayAll0, PyData.canLay0, h1, Bool.and_self]
    · simp only [List.map_cons, PyData.depthAll, PyData.depth, h2, Nat.max_self]
theorem shapedBools (bs : List Bool) : SeqAt.shaped (.list (bs.map PyData.bool)) = true := by
  obtain ⟨h1, h2⟩ := layBools bs
  simp [SeqAt.shaped, PyData.canLay0, PyData.depth, h1, h2]
theorem eqvBools (bs : List Bool) : PyData.eqv (.list (bs.map PyData.bool)) (.list (bs.map PyData.bool)) = true :=
  SeqAt.eqv_refl _ (by simpa [PyData.canLay0] using (layBools bs).1)
theorem ifSame {d : PyData} {A B : Prop} (h : PyData.eqv d d = true) (b : B) : if (!PyData.eqv d d) = true then A else B := by
  rw [h]
  exact iteF b
theorem mildBools : ∀ bs : List Bool, mildAll (bs.map PyData.bool) = true ∧ capAll (bs.map PyData.bool) ≤ 100 * bs.length
  | [] => ⟨rfl, Nat.le_refl _⟩
  | b :: bs => by
    obtain ⟨h1, h2⟩ := mildBools bs
    constructor
    · simp only [List.map_cons, mildAll, mild, h1, Bool.and_self]
    · simp only [List.map_cons, capAll, List.length_cons]
      have : cap (.bool b) ≤ 90 := by cases b <;> decide
      omega
end Tw
/-! Tw: enumerate over a list, a tuple, an own object that gives a tuple's iterator. -/
namespace Tw
open PySem PySem.Spec PyProof.Rows L2
/-- pairs (number, item), the items as G tells them -/
def IteG (G : Hp → List V → Prop) : It := ⟨fun i H => ∃ (xs : List V) (x : V), G H xs ∧ xs[i]? = some x,
  fun i H v H' => ∃ (T : Addr) (x : V), v = .ref T ∧ H T = none ∧ H' = upd H T (.tup [.int (i : Nat), x]) ∧ ∀ xs, G H xs → xs[i]? = some x, fun i H => ∃ xs : List V, G H xs ∧ i = xs.length⟩
theorem turnL {P : Program} {w : World} {K : PySem.W.Frag} {elts : List Expr} {kk : Nat} {tpos : Pos} (a e it : Addr) :
    Turn P w K (.Tuple elts kk tpos) (IteG fun H xs => SqL K H a xs) [e, it] e (fun i h => (∃ old, IsEnum h e it ((i : Nat) : Int) old) ∧ h.IsListIter it a i ∧ e ≠ it) :=
  let T := turn_enum (P := P) (w := w) (K := K) (elts := elts) (kk := kk) (tpos := tpos) a e it
  ⟨T.mem, T.obj, T.keep, T.item, fun X h1 h2 h3 h4 i pins s σ H E I hf st ⟨xs, g, hx⟩ => T.done X h1 h2 h3 h4 i pins s σ H E I hf st ⟨xs, g, Nat.le_of_eq hx.symm⟩, T.self⟩
theorem turnT {P : Program} {w : World} {K : PySem.W.Frag} {elts : List Expr} {kk : Nat} {tpos : Pos} (a e it : Addr) :
    Turn P w K (.Tuple elts kk tpos) (IteG fun H xs => SqT K H a xs) [e, it] e (fun i h => (∃ old, IsEnum h e it ((i : Nat) : Int) old) ∧ h.IsTupleIter it a i ∧ e ≠ it) where
  mem := List.mem_cons_self
  obj := fun i h ⟨⟨old, he⟩, ⟨o, ho, hc, hd⟩, _⟩ b hb => by
    rcases List.mem_cons.mp hb with z | z
    · exact z ▸ ⟨_, he, fun v q => nomatch q⟩
    · rw [List.mem_singleton.mp z]
      exact ⟨o, ho, fun v q => by
        rw [hd] at q
        cases q⟩
  keep := fun i h h' ⟨⟨old, he⟩, hi, hne⟩ k => ⟨⟨old, k e List.mem_cons_self _ he⟩, hi.at fun o q => k it (List.mem_cons_of_mem _ List.mem_cons_self) o q, hne⟩
  item := by
    intro X e1 e2 e3 hc i pins s σ H E I hf ⟨⟨old, he⟩, hit, hne⟩ ⟨xs, x, hq, hx⟩
    subst e1 e2 e3
    obtain ⟨its, rv, p, hz⟩ := I.tuple hq
    obtain ⟨u, hu, ru⟩ := rv.get hx
    have hel : e < s.heap.objs.size := Heap.lt_size he
    have hil : it < s.heap.objs.size := by
      obtain ⟨_, q, _⟩ := hit
      exact Heap.lt_size q
    have hta : a ≠ it := fun z => by
      obtain ⟨o, q, c, _⟩ := hit
      obtain ⟨o', q', c', _⟩ := p
      rw [z, q] at q'
      cases q'
      rw [c] at c'
      exact absurd c' (by decide)
    have hea : e ≠ a := fun z => by
      obtain ⟨o', q', c', _⟩ := p
      rw [← z, show s.heap.get? e = _ from he] at q'
      cases q'
      exact absurd (Value.type.inj c') (by decide)
    have hlt : i < its.toArray.size := by
      rw [List.size_toArray]
      exact (List.getElem?_eq_some_iff.mp hu).1
    refine wpAny_pyNext_enum_itemC (Draws.tuple (A := X.A.in1) (I.ok.hd hc) it a hta its.toArray) he ⟨hit, p⟩ hlt hne (fun hm => ?_) fun y h1 tk py ho st1 hT hsz hk => ?_
    · rcases List.mem_cons.mp hm with z | z
      · exact hne z
      · exact hea (List.mem_singleton.mp z)
    · have ey : y = u := by
        have q : its.toArray[i]? = some y := py
        rw [List.getElem?_toArray, hu] at q
        exact (Option.some.inj q).symm
      subst ey
      refine ⟨_, rfl, wpAny_letOwnedTupleGo_enum (s := { s with heap := h1, toks := tk + 1 }) ho fun h2 he2 sb => ?_⟩
      have hT2 : h2.get? s.heap.objs.size = some { cls := .type "tuple", data := .seq #[.int i tk, y] } := (sb.2 _ (Nat.ne_of_gt hel)).trans hT
      have ok : ObjOk X.prog X.w (upd H s.heap.objs.size (.tup [.int (i : Nat), x])) h2 s.heap.objs.size (.tup [.int (i : Nat), x]) := ⟨(by show 2 ≤ sizeLine; decide), [.int i tk, y], .cons ⟨_, rfl⟩ (.cons ru .nil), ⟨_, hT2, rfl, _, rfl⟩⟩
      have I1 : Inv X pins σ (upd H s.heap.objs.size (.tup [.int (i : Nat), x])) { s with heap := h2, toks := tk + 1 } := I.turnedNew (ch := [e, it]) (fun b ob hb q => by
        have b1 : b ≠ e := fun z => hb (z ▸ List.mem_cons_self)
        have b2 : b ≠ it := fun z => hb (z ▸ List.mem_cons_of_mem _ List.mem_cons_self)
        exact (sb.2 b b1).trans (hk b ob b1 b2 q)) hf (Nat.le_refl _) ok
      refine ⟨.ref s.heap.objs.size, _, I1, rfl, ⟨_, x, rfl, I.hok.fresh (Nat.le_refl _), rfl, fun ys hy => I.tuple_inj hy hq ▸ hx⟩, ⟨⟨y, ?_⟩, st1.1.at fun o q => (sb.2 it hne.symm).trans q, hne⟩, fun b hb => ?_⟩
      · rw [show ((i + 1 : Nat) : Int) = (i : Int) + 1 by omega]
        exact he2
      · have lt : b < s.heap.objs.size := by
          rcases List.mem_cons.mp hb with z | z
          · exact z ▸ hel
          · exact (List.mem_singleton.mp z) ▸ hil
        rw [upd_ne (Nat.ne_of_lt lt)]
        exact (hf b hb).1
  done := by
    intro X e1 e2 e3 hc i pins s σ H E I hf ⟨⟨old, he⟩, hit, hne⟩ ⟨xs, hq, hx⟩
    subst e1 e2 e3
    obtain ⟨its, rv, p, hz⟩ := I.tuple hq
    have hta : a ≠ it := fun z => by
      obtain ⟨o, q, c, _⟩ := hit
      obtain ⟨o', q', c', _⟩ := p
      rw [z, q] at q'
      cases q'
      rw [c] at c'
      exact absurd c' (by decide)
    have hn : its.toArray.size = i := by
      rw [List.size_toArray, ← rv.length, hx]
    have D := Draws.tuple (prog := X.prog) (w := X.w) (A := X.A.in1) (I.ok.hd hc) it a hta its.toArray
    rw [hn] at D
    obtain ⟨f0, f1, f2, f3, f4, f5⟩ := hf it (List.mem_cons_of_mem _ List.mem_cons_self)
    exact wpAny_pyNext_enum_endD D he ⟨hit, p⟩ fun h' eb => ⟨rfl, I.turned (t' := s.toks) (fun b o hb q => eb b o hb q) f0 f1 f3 f4 f5⟩
  self := fun A i s Q E ⟨⟨_, he⟩, _⟩ h => wpAny_pyIter_enum he h
end Tw
/-! Tw: walking an own object whose __iter__ returns a tuple's iterator. -/
namespace Tw
open PySem PySem.Spec PyProof.Rows L2 ItX
/-- at it: an iterator of the tuple at t, before its item i -/
def ItT (t it : Addr) (i : Nat) : HO := .ext fun h => h.IsTupleIter it t i
theorem itT_ok {P : Program} {w : World} {H : Hp} {h : Heap} {t it : Addr} {i : Nat} (e : h.IsTupleIter it t i) : ObjOk P w H h it (ItT t it i) := ⟨e, ⟨_, e.choose_spec.1⟩, fun h1 h2 q k => q.at fun o z => k _ z⟩
theorem itT_get {X : Cx} {pins : List (Addr × Obj)} {σ : L2.St} {H : Hp} {s : Shared} {t it : Addr} {i : Nat} (I : Inv X pins σ H s) (e : H it = some (ItT t it i)) : s.heap.IsTupleIter it t i := (I.hok it _ e).1
/-- iter(t), t a tuple: a young iterator -/
def rIterT (K : PySem.W.Frag) (n : Nat) : List V → Hp → VK → Prop := fun xs H Q => ∃ (t : Addr) (zs : List V), xs = [.ref t] ∧ SqT K H t zs ∧ ∀ it H', H it = none → n ≤ it → Same H H' → H' it = some (ItT t it 0) → Q (.ref it) H'
theorem call_iterT {X : Cx} : CallR X (.builtin "iter") (rIterT X.K X.s_0.heap.objs.size) := by
  intro pins s σ H xs us Q I r h
  obtain ⟨t, zs, rfl, hq, q⟩ := h
  obtain ⟨u, rfl, ru⟩ := vals1 r
  cases (show u = Value.ref t from ru)
  obtain ⟨its, rv, pl, hz⟩ := I.tuple hq
  refine Calls.call_function_entry (by decide +kernel) (by decide +kernel) PySem.W.kdk_entry_iter (PySem.W.kdk_args_iter _) ?_
  unfold Builtin.«iter»
  refine wpAny_bind (m := someArgs "iter" 1 2 _) (wpAny_of_eq (a := [Value.ref t]) (by first | rfl | kernel_rfl!) ?_)
  show wpAny _ _ (pyIter (.ref t) >>= _) _ _ _
  refine wpAny_bind (wpAny_pyIter_tuple (show s.heap.IsTuple t its.toArray from pl) (wpAny_pure ⟨_, rfl, ?_⟩))
  have hf := I.hok.fresh (Nat.le_refl s.heap.objs.size)
  have new : (s.heap.push { cls := .type "tuple_iterator", data := .fields #[.ref t, .int 0 0] }).IsTupleIter s.heap.objs.size t 0 := ⟨_, Heap.get?_push_size _ rfl, rfl, rfl⟩
  exact ⟨.ref s.heap.objs.size, upd H s.heap.objs.size (ItT t s.heap.objs.size 0), I.laid (t' := s.toks) (fun b u e => Heap.get?_push_of_some _ e) (Nat.le_refl _) (itT_ok new), rfl, q _ _ hf I.sz (same_new hf) upd_same⟩
/-- a def's promise that knows how many objects there are when it is called -/
structure FnN (P : Program) (w : World) (K : PySem.W.Frag) (mg : Str → Option Value) (base : Heap) (CX : CXT) (k : Nat) (f : Addr) (fd : FuncData) (ps : List Str) (sp : Nat → Sp) : Prop where
  len : ∀ n vs H Q E, sp n vs H Q E → vs.length = ps.length
  run : ∀ (A : Around) (outer : List Env) (s : Shared) (H : Hp) (args : Args) (us : List Value) (vs : List V) (Q : VK) (E : XK), Room k A → Env0 P w K mg base A outer s H →
    BindsTo s fd args (ps.zip us) → Vals vs us → sp s.heap.objs.size vs H Q E → codeAny (model P w) A (.call (.ref f) args) (CR CX outer P w H s Q E) s
theorem _root_.L2.FunD.okN {P : Program} {w : World} {K : PySem.W.Frag} {mg : Str → Option Value} {base : Heap} {CX : CXT} {x qual : Str} {params : Arguments} {body : List Stmt} {scope : Scope} {dvs : List V} {kws : List (Str × V)} {f : Addr} {fd : FuncData} {N ps : List Str} {k : Nat} {sp : Nat → Sp}
    (F : FunD K x qual params body scope dvs kws f fd) (S : FnScope N ps scope) (len : ∀ n vs H Q E, sp n vs H Q E → vs.length = ps.length)
    (hbody : ∀ (cdv : Value) (A : Around) (outer : List Env) (s : Shared) (H : Hp) (vs : List V) (Q : VK) (E : XK), Room k (A.deeper (envOfC qual scope s.heap.objs.size f cdv)) → sp s.heap.objs.size vs H Q E →
      ∃ t, PSs (cxOf CX P w K mg base N qual scope f cdv A outer s H E) body t ∧ t { nx := fun _ H' => Q .non H', rt := Q } (L2.start N vs) H) : FnN P w K mg base CX (k + 1) f fd ps sp := by
  obtain ⟨oc, od, dV, kV, doc, pm, an, cdv, ct, osl, rfl, lk, hcd, _, _⟩ := F.ex
  refine ⟨len, fun A outer s H args us vs Q E hr e0 hb r hsp => ?_⟩
  have at0 : ∀ b o, base.get? b = some o → s.heap.get? b = some o := fun b o e => (e0.bs b o e).1
  have hkind : ∀ y ∈ ps.zip us, scope.names.lookup y.1 = some .local ∨ (scope.names.lookup y.1 = some .cell ∧ ((cellsFrom (s.heap.objs.size + 1) scope.names []).lookup y.1).isSome = true) := by
    rintro ⟨n, v⟩ hy
    rcases S.par n (List.of_mem_zip hy).1 with q | q
    · exact .inl q
    · exact .inr ⟨q, PySem.W.cellsFrom_some _ _ _ (.inl q)⟩
  refine codeAny_call_function hr.depth ((e0.mod.kin.keeps at0) _ _ lk) rfl S.co S.gen rfl (PySem.W.codeRec_of (e0.mod.kin.keeps at0) hcd) (hb _ _ _ _ ?_)
  refine wpAny_newFunctionEnv_cells S.kind hkind fun env he s1 x => ?_
  subst he
  refine ⟨(e0.mod.nolimit.keeps at0).keeps x.toInCall.keep, codeAny_func ?_⟩
  obtain ⟨t, ht, hq⟩ := hbody cdv A outer s H vs Q E (hr.deeper _) hsp
  refine wpAny_mono (ht.run [] s1 (L2.start N vs) H _ (inv_start S hr.hd e0 (len _ _ _ _ _ hsp) r x) hq) (fun fl s' hs => ?_) fun e s' hs => hs
  cases fl with
  | ret u =>
    obtain ⟨v, σ', H', J, rv, q⟩ := hs
    exact ⟨v, H', J.os, J.bare, J.base, J.hok, rv, q⟩
  | next =>
    obtain ⟨σ', H', J, q⟩ := hs
    exact ⟨.non, H', J.os, J.bare, J.base, J.hok, rfl, q⟩
  | brk => exact hs.elim fun _ z => z.elim fun _ z => z.2.elim
  | cont => exact hs.elim fun _ z => z.elim fun _ z => z.2.elim
section
variable {X : Cx} {CX : CXT} {k : Nat} {f C : Addr} {fd : FuncData} {ps : List Str} {E : XK} {pins : List (Addr × Obj)} {σ : L2.St} {H : Hp} {s : Shared}
/-- what an own __iter__ promises that returns iter(self.f), a tuple: f's items are told by ITS -/
def spIter (C : Addr) (ff : Str) : Nat → Sp := fun n vs H Q _ => ∃ (a dx t : Addr) (fs : List (Str × V)) (zs : List V), vs = [.ref a] ∧ H a = some (.ins C dx fs) ∧ fs.lookup ff = some (.ref t) ∧ H t = some (.tup zs) ∧ ∀ it H', H it = none → n ≤ it → Same H H' → H' it = some (ItT t it 0) → Q (.ref it) H'
theorem iter_ownT {A' : Around} {ff : Str} {a dx t : Addr} {fs : List (Str × V)} {zs : List V} {R : Value → Shared → Prop} (hs : PySem.W.findIn X.K (.ref C) "__iter__" = some (some (.ref f))) (hf : PySem.W.isFn X.K (.ref f) = true) (F : FnN X.prog X.w X.K X.mg X.base CX k f fd ps (spIter C ff)) (hr : Room k A')
    (he : Env0 X.prog X.w X.K X.mg X.base A' X.stack s H) (hb : Binds X.K fd ps []) (hx : Passes CX X E) (I : Inv X pins σ H s) (ha : H a = some (.ins C dx fs)) (hl : fs.lookup ff = some (.ref t)) (ht : H t = some (.tup zs))
    (q : ∀ it s' H', Inv X pins σ H' s' → H it = none → Same H H' → H' it = some (ItT t it 0) → X.s_0.heap.objs.size ≤ it → R (.ref it) s') : wpAny (model X.prog X.w) A' (pyIter (.ref a)) R X.xe s := by
  obtain ⟨od, ox, J⟩ := inst_at I ha
  obtain ⟨m0, hF⟩ := I.fr
  refine PySem.W.owit_iter hF I.ok.mod.kin J hs hf ?_
  have hsp : spIter C ff s.heap.objs.size [.ref a] H (fun v H' => ∃ it, v = .ref it ∧ s.heap.objs.size ≤ it ∧ H it = none ∧ Same H H' ∧ H' it = some (ItT t it 0)) E := ⟨a, dx, t, fs, zs, rfl, ha, hl, ht, fun it H' h0 hn sm e => ⟨it, rfl, hn, h0, sm, e⟩⟩
  have len := F.len _ _ _ _ _ hsp
  have b := hb s [.ref a] I.kIn (by simpa using len)
  rw [List.append_nil] at b
  refine wpAny_call (codeAny_mono (F.run A' X.stack s H ⟨[.ref a], []⟩ [.ref a] [.ref a] _ E hr he b (.cons rfl .nil) hsp) fun r s' hq => ?_)
  match r, hq with
  | .error e, hq => exact hx pins σ H s e s' I hq
  | .ok (.ret u), hq =>
    obtain ⟨v, H', I', rv, it, ev, hn, h0, sm, e⟩ := I.after hq
    subst ev
    cases (show u = Value.ref it from rv)
    have hit := itT_get I' e
    show PySem.W.OwitIt _ _ _ _ _ _
    unfold PySem.W.OwitIt
    exact wpAny_specialOf hit.typeIs PySem.F.slot_tuple_iterator_next.lookup (q it s' H' I' h0 sm e (Nat.le_trans I.sz hn))
theorem drop_same {H H1 : Hp} {it : Addr} (h0 : H it = none) (sm : Same H H1) : Same H (dropH H1 it) := fun b o e => by
  rw [dropH_ne (ne_of_none e h0)]
  exact sm b o e
/-- for x in o -/
def iOwn (K : PySem.W.Frag) (C : Addr) (ff : Str) (te : TE) : TI := fun σ H R => te σ H fun x H1 => ∃ (a dx t : Addr) (fs : List (Str × V)) (zs : List V), x = .ref a ∧ H1 a = some (.ins C dx fs) ∧ fs.lookup ff = some (.ref t) ∧ H1 t = some (.tup zs) ∧ ∀ H2, Same H1 H2 → R (Itt K t) H2
theorem pi_own {tg e : Expr} {te : TE} {ff : Str} (hs : PySem.W.findIn X.K (.ref C) "__iter__" = some (some (.ref f))) (hf : PySem.W.isFn X.K (.ref f) = true) (F : FnN X.prog X.w X.K X.mg X.base CX k f fd ps (spIter C ff)) (hr : Room k X.A) (hb : Binds X.K fd ps []) (hx : Passes CX X E) (he : PE X e te) : PI X tg e (iOwn X.K C ff te) := by
  refine ⟨fun pins s σ H R I h => thn (he.run pins s σ H _ I h) fun u s1 hh => ?_⟩
  obtain ⟨x, H1, I1, rx, a, dx, t, fs, zs, ex, ha, hl, ht, q⟩ := hh
  subst ex
  cases (show u = Value.ref a from rx)
  refine iter_ownT hs hf F hr I1.env0 hb hx I1 ha hl ht fun it s2 H2 I2 h0 sm e2 hn => ?_
  have e3 := e2
  unfold ItT at e3
  refine ⟨it, [it], _, _, dropH H2 it, rfl, inv_drop I2 e3, turn_tuple t it, itT_get I2 e2, fun b hb => ?_, q _ (drop_same h0 sm)⟩
  rw [List.mem_singleton.mp hb]
  exact inv_fp I2 e2 hn
end
section
variable {prog : Program} {w : World} {A : Around} {E : Value → Shared → Prop} {s : Shared}
/-- the enumerate object behind iter(v) -/
def enumO (it : Addr) : Obj := { cls := .type "enumerate", data := .fields #[.none, .bool false, .ref it, rawInt 0, .none, .none] }
set_option maxHeartbeats 4000000 in
theorem meets_enumI (v : Value) : MeetsIn prog w (Builtin.«enumerate.__new__» ⟨[.type "enumerate", v], []⟩) (fun B R s => wpAny (model prog w) B.in1 (pyIter v) (fun u s' => ∃ it, u = .ref it ∧ R (.ok (.ret (.ref s'.heap.objs.size))) { s' with heap := s'.heap.push (enumO it) }) (fun e s' => R (.error e) s') s) :=
  .of_wp fun B R s h => by
    have hsub := sub_enumerate
    have q1 : ∀ {Q : Value → Shared → Prop}, (∀ it s', R (.ok (.ret (.ref s'.heap.objs.size))) { s' with heap := s'.heap.push (enumO it) } → Q (.ref it) s') → wpAny (model prog w) B.in1 (pyIter v) Q (fun e s' => R (.error e) s') s := fun hQ => wpAny_mono h (fun u s' ⟨it, eu, q⟩ => eu ▸ hQ it s' q) fun _ _ z => z
    obtain ⟨hp, g, d, tk, os⟩ := s
    wp_walk using q1
    refine wpAny_stack_any fun st => wpAny_pure ?_
    split
    · rename_i c _ _ _ _ _
      cases (c == Value.type "enumerate")
      · wp_walk using q1
        rintro it ⟨hp2, g2, d2, tk2, os2⟩ r
        wp_walk
        exact ⟨_, rfl, r⟩
      · wp_walk using q1
        rintro it ⟨hp2, g2, d2, tk2, os2⟩ r
        wp_walk
        exact ⟨_, rfl, r⟩
    · wp_walk using q1
      rintro it ⟨hp2, g2, d2, tk2, os2⟩ r
      wp_walk
      exact ⟨_, rfl, r⟩
theorem enum_call {v : Value} {Q : Value → Shared → Prop} (hi : wpAny (model prog w) A.in1.in1 (pyIter v) (fun u s' => ∃ it, u = .ref it ∧ Q (.ref s'.heap.objs.size) { s' with heap := s'.heap.push (enumO it) }) E s) : wpAny (model prog w) A (call (.type "enumerate") [v]) Q E s :=
  callType_newIn PySem.F.called_enumerate (by decide) (PySem.F.typeCall_enumerate_1 _) (PySem.F.newCall_enumerate_1 _) (fun obj => PySem.F.args_object_init_2 obj _) PySem.F.entry_enumerate_new (meets_enumI v)
    (wpAny_mono hi (fun u s' ⟨it, eu, q⟩ => ⟨it, eu, ⟨_, Heap.get?_push_size _ rfl, rfl⟩, q⟩) fun _ _ z => z)
end
section
variable {X : Cx} {CX : CXT} {k : Nat} {f C : Addr} {fd : FuncData} {ps : List Str} {E : XK}
/-- for i, x in enumerate(v): v a list, a tuple, an own object -/
def iEnumA (K : PySem.W.Frag) (C : Addr) (ff : Str) (ta : TA) : TI := fun σ H R => ta σ H fun vs H1 => ∃ a, vs = [.ref a] ∧ (((∃ xs, SqL K H1 a xs) ∧ R (IteG fun H xs => SqL K H a xs) H1) ∨ ((∃ xs, SqT K H1 a xs) ∧ R (IteG fun H xs => SqT K H a xs) H1) ∨
  ∃ (dx t : Addr) (fs : List (Str × V)) (zs : List V), H1 a = some (.ins C dx fs) ∧ fs.lookup ff = some (.ref t) ∧ H1 t = some (.tup zs) ∧ ∀ H2, Same H1 H2 → R (IteG fun H xs => SqT K H t xs) H2)
theorem pi_enumA {e : Expr} {ta : TA} {ff : Str} {p pos tpos : Pos} {elts : List Expr} {kk : Nat} (hs : PySem.W.findIn X.K (.ref C) "__iter__" = some (some (.ref f))) (hf : PySem.W.isFn X.K (.ref f) = true) (F : FnN X.prog X.w X.K X.mg X.base CX k f fd ps (spIter C ff)) (hr : Room (k + 2) X.A) (hb : Binds X.K fd ps []) (hx : Passes CX X E)
    (hg : Gl X "enumerate") (hm : X.mg "enumerate" = none) (ha : PA X [e] ta) (hst : starEach [e] X.env = [(false, eval e X.env)] := by rfl) : PI X (.Tuple elts kk tpos) (.Call (.Name "enumerate" p) [e] [] pos) (iEnumA X.K C ff ta) := by
  refine ⟨fun pins s σ H R I h => Call_ (ld_blt I hg hm boot_enumerate (PyProof.Rows.callWith_type1 (thn (ha.run pos pins s σ H _ I h) fun us s1 ⟨vs, H1, I1, r1, q1⟩ => ?_) hst rfl))⟩
  obtain ⟨a, ex, q1⟩ := q1
  subst ex
  obtain ⟨u, rfl, ru⟩ := vals1 r1
  cases (show u = Value.ref a from ru)
  refine enum_call ?_
  have push : ∀ {s2 : Shared} {it : Addr}, (∀ b o, s2.heap.get? b = some o → (s2.heap.push (enumO it)).get? b = some o) := fun b o z => Heap.get?_push_of_some _ z
  have isE : ∀ {s2 : Shared} {it : Addr}, IsEnum (s2.heap.push (enumO it)) s2.heap.objs.size it ((0 : Nat) : Int) .none := fun {s2 it} => Heap.get?_push_size _ rfl
  rcases q1 with ⟨⟨xs, hq⟩, q⟩ | ⟨⟨xs, hq⟩, q⟩ | ⟨dx, t, fs, zs, h1, h2, h3, q⟩
  · obtain ⟨its, rv, pl, hz⟩ := I1.list hq
    refine wpAny_pyIter_list pl.isList ⟨_, rfl, ?_⟩
    have I2 : Inv X pins σ H1 { s1 with heap := s1.heap.push { cls := .type "list_iterator", data := .fields #[.ref a, .int 0 0] } } := I1.kept (t' := s1.toks) fun b o z => Heap.get?_push_of_some _ z
    have I3 : Inv X pins σ H1 { s1 with heap := (s1.heap.push { cls := .type "list_iterator", data := .fields #[.ref a, .int 0 0] }).push (enumO s1.heap.objs.size) } := I2.kept (t' := s1.toks) push
    have hz2 : (s1.heap.push { cls := .type "list_iterator", data := .fields #[.ref a, .int 0 0] }).objs.size = s1.heap.objs.size + 1 := Heap.size_push ..
    have hne : (s1.heap.push { cls := .type "list_iterator", data := .fields #[.ref a, .int 0 0] }).objs.size ≠ s1.heap.objs.size := by omega
    have itr : ((s1.heap.push { cls := .type "list_iterator", data := .fields #[.ref a, .int 0 0] }).push (enumO s1.heap.objs.size)).IsListIter s1.heap.objs.size a 0 := ⟨_, Heap.get?_push_of_some _ (Heap.get?_push_size _ rfl), rfl, rfl⟩
    refine wpAny_pyIter_enum isE ⟨_, [_, s1.heap.objs.size], _, _, H1, rfl, I3, turnL a _ s1.heap.objs.size, ⟨⟨.none, isE⟩, itr, hne⟩, fun b hb => ?_, q⟩
    have lt : s1.heap.objs.size ≤ b := by
      rcases List.mem_cons.mp hb with z | z
      · rw [z]
        show s1.heap.objs.size ≤ (s1.heap.push _).objs.size
        omega
      · exact Nat.le_of_eq (List.mem_singleton.mp z).symm
    exact I1.fpOk lt (I1.hok.fresh lt)
  · obtain ⟨its, rv, pl, hz⟩ := I1.tuple hq
    refine wpAny_pyIter_tuple (show s1.heap.IsTuple a its.toArray from pl) ⟨_, rfl, ?_⟩
    have I2 : Inv X pins σ H1 { s1 with heap := s1.heap.push { cls := .type "tuple_iterator", data := .fields #[.ref a, .int 0 0] } } := I1.kept (t' := s1.toks) fun b o z => Heap.get?_push_of_some _ z
    have I3 : Inv X pins σ H1 { s1 with heap := (s1.heap.push { cls := .type "tuple_iterator", data := .fields #[.ref a, .int 0 0] }).push (enumO s1.heap.objs.size) } := I2.kept (t' := s1.toks) push
    have hz2 : (s1.heap.push { cls := .type "tuple_iterator", data := .fields #[.ref a, .int 0 0] }).objs.size = s1.heap.objs.size + 1 := Heap.size_push ..
    have hne : (s1.heap.push { cls := .type "tuple_iterator", data := .fields #[.ref a, .int 0 0] }).objs.size ≠ s1.heap.objs.size := by omega
    have itr : ((s1.heap.push { cls := .type "tuple_iterator", data := .fields #[.ref a, .int 0 0] }).push (enumO s1.heap.objs.size)).IsTupleIter s1.heap.objs.size a 0 := ⟨_, Heap.get?_push_of_some _ (Heap.get?_push_size _ rfl), rfl, rfl⟩
    refine wpAny_pyIter_enum isE ⟨_, [_, s1.heap.objs.size], _, _, H1, rfl, I3, turnT a _ s1.heap.objs.size, ⟨⟨.none, isE⟩, itr, hne⟩, fun b hb => ?_, q⟩
    have lt : s1.heap.objs.size ≤ b := by
      rcases List.mem_cons.mp hb with z | z
      · rw [z]
        show s1.heap.objs.size ≤ (s1.heap.push _).objs.size
        omega
      · exact Nat.le_of_eq (List.mem_singleton.mp z).symm
    exact I1.fpOk lt (I1.hok.fresh lt)
  · have hr1 : Room (k + 1) X.A.in1 := Room.in1 hr
    refine iter_ownT hs hf F hr1.in1 I1.env0.in1.in1 hb hx I1 h1 h2 h3 fun it s2 H2 I2 h0 sm e2 hn => ⟨it, rfl, ?_⟩
    have I3 : Inv X pins σ H2 { s2 with heap := s2.heap.push (enumO it) } := I2.kept (t' := s2.toks) push
    have e3 := e2
    unfold ItT at e3
    have hit : it < s2.heap.objs.size := by
      obtain ⟨_, z, _⟩ := itT_get I2 e2
      exact Heap.lt_size z
    have hne : s2.heap.objs.size ≠ it := Nat.ne_of_gt hit
    refine wpAny_pyIter_enum isE ⟨s2.heap.objs.size, [s2.heap.objs.size, it], _, _, dropH H2 it, rfl, inv_drop I3 e3, turnT t s2.heap.objs.size it, ⟨⟨.none, isE⟩, (itT_get I3 e2), hne⟩, fun b hb => ?_, q _ (drop_same h0 sm)⟩
    rcases List.mem_cons.mp hb with z | z
    · rw [z]
      exact I2.fpOk (Nat.le_refl _) (by
        rw [dropH_ne hne]
        exact I2.hok.fresh (Nat.le_refl _))
    · rw [List.mem_singleton.mp z]
      exact inv_fp I3 e2 hn
end
/-- the turns of an enumerate -/
theorem for_enum {G : Hp → List V → Prop} {xs : List V} {g : TG} {tb : TS} {D : Ends} {ρ : L2.St} {G0 : Hp} (P : Nat → L2.St → Hp → Prop) (first : P 0 ρ G0) (still : ∀ i σ H, i ≤ xs.length → P i σ H → G H xs)
    (step : ∀ i x T σ H H', xs[i]? = some x → P i σ H → H T = none → Same H H' → H' T = some (.tup [.int (i : Nat), x]) → g (.ref T) σ H' fun σ2 H2 => tb { D with nx := P (i + 1), ct := P (i + 1), bk := D.nx } σ2 H2) (last : ∀ σ H, P xs.length σ H → D.nx σ H) :
    ∃ W : Nat → Nat → L2.St → Hp → Prop, (∃ m, W 0 m ρ G0) ∧ ∀ i m σ H, W i m σ H → ((IteG G).stop i H ∧ D.nx σ H) ∨ ((IteG G).go i H ∧ ∃ N : L2.St → Hp → Prop, (∀ σ' H', N σ' H' → ∃ m', m' < m ∧ W (i + 1) m' σ' H') ∧
      ∀ x H', (IteG G).yld i H x H' → g x σ H' fun σ2 H2 => tb { D with nx := N, ct := N, bk := D.nx } σ2 H2) := by
  refine ⟨fun i m σ H => m = xs.length - i ∧ i ≤ xs.length ∧ P i σ H, ⟨_, rfl, Nat.zero_le _, first⟩, ?_⟩
  rintro i m σ H ⟨rfl, hi, p⟩
  have gx := still i σ H hi p
  rcases Nat.lt_or_ge i xs.length with lt | ge
  · refine .inr ⟨⟨xs, xs[i], gx, List.getElem?_eq_getElem lt⟩, P (i + 1), fun σ' H' p' => ⟨_, Nat.sub_succ_lt_self _ _ lt, rfl, lt, p'⟩, fun x H' ⟨T, y, ex, hT, eH, hy⟩ => ?_⟩
    subst ex eH
    exact step i y T σ H _ (hy xs gx) p hT (same_new hT) upd_same
  · have e : i = xs.length := Nat.le_antisymm hi ge
    subst e
    exact .inl ⟨⟨xs, gx, rfl⟩, last σ H p⟩
end Tw
/-! Tw: repr of any data, get of a written dict, isinstance against a tuple of classes, tuples of the written part, the hook with tables. -/
namespace Tw
open PySem PySem.Spec PyProof.Rows L2 He
section
variable {X : Cx}
/-- repr(x), x any data -/
def rReprV (K : PySem.W.Frag) : List V → Hp → VK → Prop := fun xs H Q => ∃ (v : V) (d : PyData), xs = [v] ∧ Dx K H v d ∧ mild d = true ∧ d.depth ≤ 64 ∧ cap d ≤ 16777216 ∧ Q (.str d.shown) H
theorem call_reprV (hG : NoG X.A) (hu : X.A.units + 70 < cLine) : CallR X (.builtin "repr") (rReprV X.K) := by
  intro pins s σ H xs us Q I r h
  obtain ⟨v, d, rfl, hd, hm, hdp, hc, q⟩ := h
  have hl := Nat.le_trans (shown_le d hm) (show cap d ≤ sizeLine by rw [sizeLine_eq]; exact hc)
  cases v with
  | ref a => exact call_repr hG hu pins s σ H _ us Q I r ⟨a, d, rfl, hd, hm, hdp, hc, q⟩
  | non =>
    cases hd
    obtain ⟨u, rfl, ru⟩ := vals1 r
    cases ru
    exact PySem.P.repr_of_none ⟨.str _, H, I.tok _, ⟨_, rfl⟩, by simpa only [PyData.shown] using q⟩
  | bl b =>
    cases hd
    obtain ⟨u, rfl, ru⟩ := vals1 r
    cases ru
    exact PySem.P.repr_of_bool ⟨.str _, H, I.tok _, ⟨_, rfl⟩, by simpa only [PyData.shown] using q⟩
  | int i =>
    cases hd
    obtain ⟨u, rfl, t, rfl⟩ := vals1 r
    exact PySem.P.repr_of_int (by simpa [mild] using hm) ⟨.str _, H, I.tok _, ⟨_, rfl⟩, by simpa only [PyData.shown] using q⟩
  | str x =>
    cases hd
    obtain ⟨u, rfl, t, rfl⟩ := vals1 r
    exact PySem.P.repr_of_str ⟨.str _, H, I.tok _, ⟨_, rfl⟩, by simpa only [PyData.shown] using q⟩ (by simpa only [PyData.shown] using hl)
  | _ => cases hd
/-- isinstance(x, (C, D, ..)), x anything that is known, errors too -/
def rIsAT (K : PySem.W.Frag) : List V → Hp → VK → Prop := fun xs H Q => ∃ (x : V) (tp : Addr) (cs : List V) (t : Value) (us : List Value) (b : Bool), xs = [x, .ref tp] ∧ H tp = some (.tup cs) ∧ Paired ClsV cs us ∧
  (TyX K H x t ∨ ∃ (a C : Addr) (d : Addr) (fs : List (Str × V)), x = .ref a ∧ t = .ref C ∧ IsX H a C (some d) ∧ IsXd H d fs ∧ XC K C ∧ XO K) ∧ PySem.W.kitAny K t us = some b ∧ Q (.bl b) H
theorem call_isAT : CallR X (.builtin "isinstance") (rIsAT X.K) := by
  intro pins s σ H xs us Q I r h
  obtain ⟨x, tp, cs, t, ws, b, rfl, hT, k, ty, e, q⟩ := h
  obtain ⟨u1, u2, rfl, r1, r2⟩ := vals2 r
  cases (show u2 = Value.ref tp from r2)
  obtain ⟨_, its, rv, o, h1, h2, n, h3⟩ := (show ObjOk X.prog X.w H s.heap tp (.tup cs) from I.hok tp _ hT)
  have e3 := ClsV.all k rv
  subst e3
  obtain ⟨oc, od, dt, sl⟩ := o
  simp only at h2 h3
  subst h2 h3
  rcases ty with ty | ⟨a, C, d, fs, rfl, rfl, ia, idd, T, O⟩
  · obtain ⟨P, Z, p, hx⟩ := kit_of I r1 ty
    exact PySem.W.kia_tup Z I.kIn p h1 e hx fun tk => ⟨.bl b, H, I.tok tk, rfl, q⟩
  · cases (show u1 = Value.ref a from r1)
    obtain ⟨oe, vs, ho, hz, hdt⟩ := ia.get I.hok
    obtain ⟨mA, hns, hr⟩ := idd.get I.hok
    obtain ⟨od, hod, hlk⟩ := lookIn_ns hns
    have J : PySem.W.InstAt s.heap a oe C (some od) := ⟨ho, hz.1, by unfold PySem.W.notCls; rw [hdt] <;> rfl, by rw [hz.2]; exact hod⟩
    exact PySem.W.kia_tup (PySem.W.kitx_exc (od := some od) (oexC_cl T.ox) T.ga T.gg T.ox.exC T.ca O.hn O.ht T.cm) I.kIn J h1 e (fun z => nomatch z) fun tk => ⟨.bl b, H, I.tok tk, rfl, q⟩
end
/-- d.get(y, x), d a dict of the top with text keys -/
def tKGet2 (K : PySem.W.Frag) (d : Addr) (td ty tx : TE) : TE := fun σ H Q => td σ H fun x H1 => x = .ref d ∧ ty σ H1 fun y H2 => ∃ z, y = .str z ∧ tx σ H2 fun q H3 => ∃ (r : Option Value) (v : V), PySem.W.nsIn K d z = some r ∧ (∀ u, RelV q u → RelV v (r.getD u)) ∧ Q v H3
section
variable {X : Cx} {o e f : Expr} {apos cpos : Pos} {td ty tx : TE} {d : Addr} {es : Array DictEntry} {n : Nat}
theorem pe_kget2 (D : KDict X.K X.w d es n) (ho : PE X o td) (he : PE X e ty) (hf : PE X f tx) (m : M2 X o "get" apos e f cpos) : PE X (.Call (.Attribute o "get" apos) [e, f] [] cpos) (tKGet2 X.K d td ty tx) := by
  refine ⟨fun pins s σ H Q I h => ?_⟩
  refine wpAny_Call_method m.base m.few m.line PySem.F.plainAttrs_dict PySem.F.slot_dict_get PySem.F.type_dict_get (thn (ho.run pins s σ H _ I h) fun u s1 ⟨x, H1, I1, rx, ex, q1⟩ => ?_)
  subst ex
  obtain rfl : u = Value.ref d := rx
  refine ⟨kd_type D I1, fun b q => by cases q; exact ⟨_, I1.kIn _ _ D.at_, rfl⟩, ?_⟩
  rw [m.trees]
  refine Calls.callWith_builtin rfl (Calls.evalArgs_plain (Calls.spliced_cons (thn (he.run pins s1 σ H1 _ I1 q1) fun iv s2 ⟨y, H2, I2, ry, z, ez, q2⟩ =>
    Calls.spliced_cons (thn (hf.run pins s2 σ H2 _ I2 q2) fun fv s3 ⟨q, H3, I3, rq, r, v, er, hv, q3⟩ => Calls.spliced_nil ?_))))
  subst ez
  obtain ⟨t, rfl⟩ := ry
  refine call_meetsIn PySem.F.slot_dict_get (kd_type D I3) PySem.F.entry_dict_get (PySem.F.args_dict_get_3 _ _ _) (meets_dict_get_default (PySem.strKind X.prog X.w) d (PySem.strKind_is X.prog X.w z t) D.low fv) ⟨_, PySem.W.mapOf_K (prog := X.prog) I3.kIn D.at_ D.lit, ?_⟩
  rw [PySem.W.find_K D.at_ er]
  exact ⟨v, H3, I3.tok _, hv _ rq, q3⟩
end
/-! ### tuples of the written part -/
def tupB (K : Fg) (a : Addr) (vs : List V) : Bool := match K.lookup a with
  | some ⟨.type t, _, .seq its _, _⟩ => decide (t = "tuple") && (decide (its.size ≤ 1000) && relAll vs its.toList)
  | _ => false
theorem tupB_ok {K : Fg} {a : Addr} {vs : List V} (h : tupB K a vs = true) (H : Hp) : SqT K H a vs := by
  unfold tupB at h
  cases e : K.lookup a with
  | none =>
    rw [e] at h
    cases h
  | some o =>
    rw [e] at h
    obtain ⟨oc, od, dt, sl⟩ := o
    cases oc with
    | type t =>
      cases dt with
      | seq its n =>
        obtain ⟨h1, h⟩ := ba h
        obtain ⟨h2, h3⟩ := ba h
        have e1 := of_decide_eq_true h1
        subst e1
        exact .inr ⟨_, its, n, e, rfl, rfl, Nat.le_trans (of_decide_eq_true h2) (by decide), relAll_ok h3⟩
      | _ => cases h
    | _ => cases h
/-- C.f, a constant read off the class -/
def cvalB (K : Fg) (C : Addr) (f : Str) (v : V) : Bool := match PySem.W.findCls K (.ref C) (.type "type") f with
  | some (.val u) => relB v u
  | _ => false
theorem cvalB_ok {K : Fg} {C : Addr} {f : Str} {v : V} (h : cvalB K C f v = true) : ∃ u, ClX.CVal K C (.type "type") f v u := by
  unfold cvalB at h
  split at h
  · rename_i u e
    exact ⟨u, e, relB_ok h⟩
  · cases h
def creadB (K : Fg) (C : Addr) : Bool := PySem.W.readsIn K C (.type "type") && eqO (PySem.W.specialIn K (.ref C) "__getattribute__") (some (some (.builtin "type.__getattribute__")))
theorem creadB_ok {K : Fg} {C : Addr} (h : creadB K C = true) : ClX.CRead K C (.type "type") := by
  obtain ⟨h1, h2⟩ := ba h
  exact ⟨h1, eqO_ok h2⟩
/-! ### the hook with tables -/
abbrev AlYT : Type := AlD × List (Option (List (Option (Str × Int))))
def obsYT (fs : Fz) (fn : List DefD) (ts : List Tab) (K : Fg) : AlYT := (obsY fs fn K, ts.map fun t => dicW K (t.1 K))
def valYT (fn : List DefD) (ts : List Tab) (w : World) : AlYT := (valD fn, ts.map fun t => some (keysIn w.params t.2))
def obsYTG (n : Nat) (fs : Fz) (fn : List DefD) (ts : List Tab) (g : Addr → Option Obj) : AlYT := obsYT fs fn ts (frG g (asD g n ++ [cStatics]))
def SaysYT (fs : Fz) (fn : List DefD) (ts : List Tab) (w : World) (K : Fg) : Prop := obsYT fs fn ts K = valYT fn ts w
def hookYT (n : Nat) (fs : Fz) (fn : List DefD) (ts : List Tab) : PySem.W.Hook where
  α := AlYT
  obs := fun s => obsYTG n fs fn ts s.heap.get?
  val := fun w => valYT fn ts w
  says := fun w h => ∃ K : Fg, K.In h ∧ SaysYT fs fn ts w K
  of := fun _ _ e => ⟨_, frG_in, e⟩
  keeps := fun _ _ _ ⟨K, hK, c⟩ k => ⟨K, PySem.W.Frag.In.keeps hK k, c⟩
theorem obsYTG_eq {n : Nat} {fs : Fz} {fn : List DefD} {ts : List Tab} {g : Addr → Option Obj} {s : Shared} (h : ∀ a, g a = s.heap.get? a) : obsYTG n fs fn ts g = (hookYT n fs fn ts).obs s := by
  have e : g = s.heap.get? := funext h
  rw [e] <;> rfl
section
variable {fs : Fz} {fn : List DefD} {ts : List Tab} {w : World} {K : Fg}
theorem SaysYT.y (c : SaysYT fs fn ts w K) : SaysY fs fn K := congrArg (fun z : AlYT => z.1) c
theorem SaysYT.tab (c : SaysYT fs fn ts w K) (i : Nat) {t : Tab} (h : ts[i]? = some t := by rfl) : ∃ es n, KDict K w (t.1 K) es n := by
  have e : ts.map (fun t => dicW K (t.1 K)) = ts.map fun t => some (keysIn w.params t.2) := congrArg (fun z : AlYT => z.2) c
  have e2 : (ts.map fun t => dicW K (t.1 K))[i]? = (ts.map fun t => some (keysIn w.params t.2))[i]? := by rw [e]
  rw [List.getElem?_map, List.getElem?_map, h] at e2
  exact dicW_ok (Option.some.inj e2)
end
/-! ### small texts -/
/-- signs below 128, at most n -/
def Small (n : Nat) (z : Str) : Prop := z.length ≤ n ∧ ∀ c ∈ z.cps.toList, c < 128
theorem Small.app {m n : Nat} {x y : Str} (hx : Small m x) (hy : Small n y) : Small (m + n) (x ++ y) := by
  refine ⟨by rw [Str.length_append]; exact Nat.add_le_add hx.1 hy.1, fun c hc => ?_⟩
  rw [show (x ++ y).cps.toList = TL.tl (x ++ y) from rfl, TL.tl_append] at hc
  rcases List.mem_append.mp hc with q | q
  · exact hx.2 c q
  · exact hy.2 c q
theorem Small.cut {n : Nat} {x : Str} (hx : Small n x) (lo hi : Option Int) : Small n (cutS x lo hi) := by
  refine ⟨Nat.le_trans (cutS_length x lo hi) hx.1, fun c hc => hx.2 c ?_⟩
  unfold cutS at hc
  exact List.mem_of_mem_drop (List.mem_of_mem_take (by simpa using hc))
theorem Small.mono {m n : Nat} {x : Str} (hx : Small m x) (h : m ≤ n) : Small n x := ⟨Nat.le_trans hx.1 h, hx.2⟩
theorem Small.mild {n : Nat} {x : Str} (hx : Small n x) : Tw.mild (.str x) = true := by
  unfold Tw.mild
  rw [List.all_eq_true]
  exact fun c hc => decide_eq_true (Nat.lt_trans (hx.2 c hc) (by decide))
def smallB (n : Nat) (z : Str) : Bool := decide (z.length ≤ n) && z.cps.toList.all fun c => decide (c < 128)
theorem smallB_ok {n : Nat} {z : Str} (h : smallB n z = true) : Small n z := by
  obtain ⟨h1, h2⟩ := ba h
  exact ⟨of_decide_eq_true h1, fun c hc => of_decide_eq_true (List.all_eq_true.mp h2 c hc)⟩
theorem Small.strOk {n : Nat} {z : Str} (h : Small n z) : PyData.strOk z = true := by
  unfold PyData.strOk
  rw [← Array.all_toList, List.all_eq_true]
  exact fun c hc => decide_eq_true (Nat.lt_trans (h.2 c hc) (by decide))
/-! ### lists of texts -/
theorem dxStrs {K : PySem.W.Frag} {H : Hp} : ∀ zs : List Str, DxAll K H (zs.map V.str) (zs.map PyData.str)
  | [] => .nil
  | z :: zs => .cons (.str z) (dxStrs zs)
theorem dxBools {K : PySem.W.Frag} {H : Hp} : ∀ zs : List Bool, DxAll K H (zs.map V.bl) (zs.map PyData.bool)
  | [] => .nil
  | z :: zs => .cons (.bl z) (dxBools zs)
theorem dpStrs {K : PySem.W.Frag} {H : Hp} : ∀ zs : List Str, DpAll K H (zs.map V.str) (zs.map PyData.str)
  | [] => .nil
  | z :: zs => .cons (.str z) (dpStrs zs)
theorem mildStrs {n : Nat} : ∀ zs : List Str, (∀ z ∈ zs, Small n z) → mildAll (zs.map .str) = true ∧ capAll (zs.map .str) ≤ (12 * n + 100) * zs.length
  | [], _ => ⟨rfl, Nat.le_refl _⟩
  | z :: zs, h => by
    obtain ⟨h1, h2⟩ := mildStrs zs fun y hy => h y (List.mem_cons_of_mem _ hy)
    have h3 := h z List.mem_cons_self
    constructor
    · simp only [List.map_cons, mildAll, h3.mild, h1, Bool.and_self]
    · simp only [List.map_cons, capAll, List.length_cons]
      have h4 : cap (.str z) ≤ 12 * n + 90 := by
        have := h3.1
        simp only [cap]
        omega
      rw [Nat.mul_add]
      omega
theorem depthStrs : ∀ zs : List Str, PyData.depthAll (zs.map PyData.str) = 0
  | [] => rfl
  | z :: zs => by simp only [List.map_cons, PyData.depthAll, PyData.depth, depthStrs zs, Nat.max_self]
/-- what repr asks of a list of small texts -/
theorem reprStrs {n : Nat} (zs : List Str) (h : ∀ z ∈ zs, Small n z) (hn : n ≤ 1000) (hz : zs.length ≤ 1000) : mild (.list (zs.map .str)) = true ∧ (PyData.list (zs.map .str)).depth ≤ 64 ∧ cap (.list (zs.map .str)) ≤ 16777216 := by
  obtain ⟨h1, h2⟩ := mildStrs zs h
  have h3 : (12 * n + 100) * zs.length ≤ 12100 * 1000 := Nat.mul_le_mul (by omega) hz
  refine ⟨by simpa [mild] using h1, by simp only [PyData.depth, depthStrs]; decide, ?_⟩
  simp only [cap]
  omega
end Tw
/-! ### the defs of a text, by their number -/
namespace Tw
open PySem PySem.Spec PyProof.Rows L2 He
abbrev DefsAt (fn : List DefD) (K : Fg) (fd : Nat → FuncData) : Prop := ∀ (i : Nat) (d : DefD), fn[i]? = some d → FunD K d.name d.qual d.params d.body d.scope (d.dvs K) (d.kws K) (fAd K d.at_) (fd i)
theorem SaysY.defs {fs : Fz} {fn : List DefD} {K : Fg} (c : SaysY fs fn K) {d0 : DefD} (h0 : fn[0]? = some d0) : ∃ fd : Nat → FuncData, DefsAt fn K fd := by
  obtain ⟨u0, _⟩ := c.def_ 0 h0
  have h : ∀ i : Nat, ∃ u : FuncData, ∀ d : DefD, fn[i]? = some d → FunD K d.name d.qual d.params d.body d.scope (d.dvs K) (d.kws K) (fAd K d.at_) u := fun i => by
    cases e : fn[i]? with
    | none => exact ⟨u0, fun d z => nomatch z⟩
    | some d =>
      obtain ⟨u, hu⟩ := c.def_ i e
      exact ⟨u, fun d' z => by
        cases z
        exact hu⟩
  exact ⟨fun i => Classical.choose (h i), fun i d e => Classical.choose_spec (h i) d e⟩
/-- what the walk asks of the written part and of the module's names -/
structure TxtB (fs : Fz) (fn : List DefD) (K : Fg) (mg : Str → Option Value) : Prop where
  c : SaysY fs fn K
  gl : ∀ x, (Fa.glo x).ok K = true → mg x = some (.ref (ga K x))
  fr : ∀ x, (Fa.free x).ok K = true → mg x = none
  nt : ∀ x i, (Fa.int x i).ok K = true → ∃ t, mg x = some (.int i t)
  tx : ∀ x z, (Fa.str x z).ok K = true → ∃ t, mg x = some (.str z t)
end Tw
namespace Tw
open PySem PySem.Spec PyProof.Rows L2 He
/-! ### errors of one field -/
/-- C.__init__ that stores one value -/
def spIni (C : Addr) (f : Str) : Sp := fun vs H Q _ => ∃ (a : Addr) (v : V), vs = [.ref a, v] ∧ H a = some (exo a C none) ∧ ∀ (d : Addr) (H' : Hp), H d = none → d ≠ a → H' a = some (exo a C (some d)) → H' d = some (exd d [(f, v)]) → But a H H' → Q .non H'
theorem bad_out {H : Hp} {C : Addr} {f : Str} {v : V} {Q : XK} {E : XK} (k : ∀ (d : Addr) (H' : Hp), Same H H' → H' d = some (.xd [(f, v)]) → Q (.ref C) (some d) H') :
    ([v] : List V).length ≤ 1000 ∧ ∀ a, H a = none → spIni C f (.ref a :: (([v] : List V) ++ [])) (upd H a (exo a C none)) (fun v H2 => v = .non ∧ ∃ (d : Addr) (fs : List (Str × V)), H2 a = some (exo a C (some d)) ∧ H2 d = some (exd d fs) ∧ H d = none ∧ Q (.ref C) (some d) (upd (del H2 a) d (.xd fs))) E := by
  refine ⟨(by show 1 ≤ 1000; decide), fun a ha => ⟨a, v, rfl, upd_same, fun d H' hd hda e1 e2 e3 => ?_⟩⟩
  rw [upd_ne hda] at hd
  refine ⟨rfl, d, _, e1, e2, hd, k d _ (fun b o hb => ?_) upd_same⟩
  have hba : b ≠ a := ne_of_none hb ha
  rw [upd_ne (ne_of_none hb hd), del_ne hba]
  exact e3 b o (by rw [upd_ne hba]; exact hb) hba
theorem same_but {H H1 H2 : Hp} {a : Addr} (s : Same H H1) (b : But a H1 H2) (h : H a = none) : Same H H2 := fun c o e => b c o (s c o e) (ne_of_none e h)
theorem same_made {H : Hp} {a dx : Addr} {o u : HO} (hd : H dx = none) (ha : H a = none) (hda : dx ≠ a) : Same H (upd (upd H dx o) a u) := (same_new hd).trans (same_new (by rw [upd_ne hda.symm]; exact ha))
theorem atI_gen {α : Type} {xs : List α} {i : Int} {v : α} (h0 : 0 ≤ i) (h : xs[i.toNat]? = some v) : atI xs i = some v := by
  have e : i = (i.toNat : Int) := (Int.toNat_of_nonneg h0).symm
  rw [e]
  exact atI_nat h
theorem dec_i {i j : Int} : decide (V.int i = V.int j) = decide (i = j) := by
  by_cases h : i = j
  · rw [h]
    simp
  · rw [decide_eq_false h, decide_eq_false fun z => h (V.int.inj z)]
theorem dec_s {i j : Str} : decide (V.str i = V.str j) = decide (i = j) := by
  by_cases h : i = j
  · rw [h]
    simp
  · rw [decide_eq_false h, decide_eq_false fun z => h (V.str.inj z)]
theorem inStrs (z : Str) : ∀ zs : List Str, inV (.str z) (zs.map V.str) = decide (z ∈ zs)
  | [] => rfl
  | y :: ys => by
    have ih := inStrs z ys
    unfold inV at ih ⊢
    rw [List.map_cons, List.any_cons, ih]
    show ((y == z) || _) = _
    by_cases h : y = z
    · subst h
      simp
    · rw [beq_eq_false_iff_ne.mpr h, Bool.false_or]
      exact decide_eq_decide.2 ⟨fun q => List.mem_cons_of_mem _ q, fun q => (List.mem_cons.mp q).resolve_left fun e => h e.symm⟩
theorem flatStrs : ∀ zs : List Str, (zs.map V.str).all flatV = true
  | [] => rfl
  | _ :: zs => by
    rw [List.map_cons, List.all_cons, flatStrs zs]
    rfl
end Tw
/-! Tw: own operators: x + y of one class, x * 3, 3 * x, -x, x += y. -/
namespace Tw
open PySem PySem.Spec PyProof.Rows L2 He
/-- the class at C answers to name by the def at f -/
structure OwnB (K : PySem.W.Frag) (C : Addr) (name : Str) (f : Addr) : Prop where
  self1 : PySem.W.selfFirst K C = true
  at_ : PySem.W.findIn K (.ref C) name = some (some (.ref f))
  fn : PySem.W.isFn K (.ref f) = true
def ownB (K : PySem.W.Frag) (x m : Str) : Bool := PySem.W.selfFirst K (ga K x) && (eqO (PySem.W.findIn K (.ref (ga K x)) m) (some (some (.ref (ma K (ga K x) m)))) && PySem.W.isFn K (.ref (ma K (ga K x) m)))
theorem ownB_ok {K : PySem.W.Frag} {x m : Str} (h : ownB K x m = true) : OwnB K (ga K x) m (ma K (ga K x) m) := by
  obtain ⟨h1, h⟩ := ba h
  obtain ⟨h2, h3⟩ := ba h
  exact ⟨h1, eqO_ok h2, h3⟩
section
variable {X : Cx} {CX : CXT} {k : Nat} {f C : Addr} {fd : FuncData} {ps : List Str} {sp : Sp} {E : XK} {op : Operator} {T : String}
/-- x op y, both of the class at C -/
def rBinOwn (C : Addr) (sp : Sp) (E : XK) : R2 := fun x y H Q => ∃ (a b dx dy : Addr) (fs gs : List (Str × V)), x = .ref a ∧ y = .ref b ∧ H a = some (.ins C dx fs) ∧ H b = some (.ins C dy gs) ∧ sp [x, y] H Q E
theorem op_binOwn (c : OwnB X.K C (PySem.dunder op.info.2) f) (F : FnOk X.prog X.w X.K X.mg X.base CX k f fd ps sp) (hr : Room k X.A) (hb : Binds X.K fd ps []) (hx : Passes CX X E) : OpR X (binaryOp op) (rBinOwn C sp E) := by
  intro pins s σ H x y v u Q I rx ry h
  obtain ⟨a, b, dx, dy, fs, gs, rfl, rfl, ea, eb, q⟩ := h
  cases (show v = Value.ref a from rx)
  cases (show u = Value.ref b from ry)
  obtain ⟨od, ox, J⟩ := inst_at I ea
  obtain ⟨od2, oy, J2⟩ := inst_at I eb
  obtain ⟨m, fr⟩ := I.fr
  refine PySem.W.binop_K fr I.ok.mod.kin J J2.type c.self1 c.at_ c.fn ?_
  refine wpAny_mono (run_fn (dvs := []) (ds := []) (us := [.ref a, .ref b]) (vs := [.ref a, .ref b]) F hr hb .nil hx I (.cons rfl (.cons rfl .nil)) q) (fun w s' z => ?_) fun _ _ x => x
  obtain ⟨z', H', I', rz, qz⟩ := z
  exact SlX.cmpback rz ⟨z', H', I', rz, qz⟩
/-- what is asked of a built-in class beside it -/
structure BinT (K : PySem.W.Frag) (C : Addr) (op : Operator) (T : String) : Prop where
  l : ∃ fo, PySem.W.findIn K (.type T) (PySem.dunder op.info.2) = some fo
  r : ∃ ro, PySem.W.findIn K (.type T) (PySem.dunderR op.info.2) = some ro
  sub : PySem.W.subIn K (.type T) (.ref C) = some false
  rc : ∃ rc, PySem.W.findIn K (.ref C) (PySem.dunderR op.info.2) = some rc ∧ (rc = none ∨ ∃ g : Addr, rc = some (.ref g))
def refOrNone : Option (Option Value) → Bool
  | some none => true
  | some (some (.ref _)) => true
  | _ => false
theorem refOrNone_ok {o : Option (Option Value)} (h : refOrNone o = true) : ∃ rc, o = some rc ∧ (rc = none ∨ ∃ g : Addr, rc = some (.ref g)) := by
  unfold refOrNone at h
  split at h
  · exact ⟨_, rfl, .inl rfl⟩
  · rename_i g
    exact ⟨_, rfl, .inr ⟨g, rfl⟩⟩
  · cases h
def binTB (K : PySem.W.Frag) (x : Str) (op : Operator) (T : String) : Bool := (PySem.W.findIn K (.type T) (PySem.dunder op.info.2)).isSome && ((PySem.W.findIn K (.type T) (PySem.dunderR op.info.2)).isSome && (decide (PySem.W.subIn K (.type T) (.ref (ga K x)) = some false) && refOrNone (PySem.W.findIn K (.ref (ga K x)) (PySem.dunderR op.info.2))))
theorem binTB_ok {K : PySem.W.Frag} {x : Str} {op : Operator} {T : String} (h : binTB K x op T = true) : BinT K (ga K x) op T := by
  obtain ⟨h1, h⟩ := ba h
  obtain ⟨h2, h⟩ := ba h
  obtain ⟨h3, h4⟩ := ba h
  exact ⟨Option.isSome_iff_exists.mp h1, Option.isSome_iff_exists.mp h2, of_decide_eq_true h3, refOrNone_ok h4⟩
/-- y is a value of the built-in class T -/
def ofT (H : Hp) (y : V) (T : String) : Prop := match y with
  | .int _ => T = "int"
  | .bl _ => T = "bool"
  | .str _ => T = "str"
  | _ => False
theorem ofT_type {H : Hp} {y : V} {u : Value} (r : RelV y u) (h : ofT H y T) : typeOf u = pure (.type T) := by
  cases y with
  | int i =>
    obtain ⟨t, rfl⟩ := r
    cases (show T = "int" from h)
    rfl
  | bl b =>
    cases (show u = Value.bool b from r)
    cases (show T = "bool" from h)
    rfl
  | str z =>
    obtain ⟨t, rfl⟩ := r
    cases (show T = "str" from h)
    rfl
  | _ => exact h.elim
/-- x op y, x of the class at C, y a number or a text -/
def rBinT (C : Addr) (T : String) (sp : Sp) (E : XK) : R2 := fun x y H Q => ∃ (a dx : Addr) (fs : List (Str × V)), x = .ref a ∧ H a = some (.ins C dx fs) ∧ ofT H y T ∧ sp [x, y] H Q E
theorem op_binT (c : OwnB X.K C (PySem.dunder op.info.2) f) (t : BinT X.K C op T) (F : FnOk X.prog X.w X.K X.mg X.base CX k f fd ps sp) (hr : Room k X.A) (hb : Binds X.K fd ps []) (hx : Passes CX X E) : OpR X (binaryOp op) (rBinT C T sp E) := by
  intro pins s σ H x y v u Q I rx ry h
  obtain ⟨a, dx, fs, rfl, ea, ht, q⟩ := h
  cases (show v = Value.ref a from rx)
  obtain ⟨od, ox, J⟩ := inst_at I ea
  obtain ⟨m, fr⟩ := I.fr
  obtain ⟨fo, h1⟩ := t.l
  obtain ⟨ro, h2⟩ := t.r
  obtain ⟨rc, h3, h4⟩ := t.rc
  refine PySem.W.ksp_binT fr I.ok.mod.kin J (ofT_type ry ht) c.self1 c.at_ c.fn h3 h4 h1 h2 t.sub ?_
  refine wpAny_mono (run_fn (dvs := []) (ds := []) (us := [.ref a, u]) (vs := [.ref a, y]) F hr hb .nil hx I (.cons rfl (.cons ry .nil)) q) (fun w s' z => ?_) fun _ _ x => x
  obtain ⟨z', H', I', rz, qz⟩ := z
  exact SlX.cmpback rz ⟨z', H', I', rz, qz⟩
/-- -x -/
def rNegOwn (C : Addr) (sp : Sp) (E : XK) : V → Hp → VK → Prop := fun x H Q => ∃ (a dx : Addr) (fs : List (Str × V)), x = .ref a ∧ H a = some (.ins C dx fs) ∧ sp [x] H Q E
theorem un_negOwn (c : OwnB X.K C "__neg__" f) (F : FnOk X.prog X.w X.K X.mg X.base CX k f fd ps sp) (hr : Room k X.A) (hb : Binds X.K fd ps []) (hx : Passes CX X E) : UnR X (unaryOp .USub) (rNegOwn C sp E) := by
  intro pins s σ H x v Q I rx h
  obtain ⟨a, dx, fs, rfl, ea, q⟩ := h
  cases (show v = Value.ref a from rx)
  obtain ⟨od, ox, J⟩ := inst_at I ea
  obtain ⟨m, fr⟩ := I.fr
  refine PySem.W.ksp_neg fr I.ok.mod.kin J c.at_ c.fn ?_
  exact run_fn (dvs := []) (ds := []) (us := [.ref a]) (vs := [.ref a]) F hr hb .nil hx I (.cons rfl .nil) q
/-- x op= y by an own in-place method -/
def rInOwn (C : Addr) (sp : Sp) (E : XK) : R2 := fun x y H Q => ∃ (a dx : Addr) (fs : List (Str × V)), x = .ref a ∧ H a = some (.ins C dx fs) ∧ sp [x, y] H Q E
theorem in_own (c : OwnB X.K C (PySem.dunderI op.info.2) f) (F : FnOk X.prog X.w X.K X.mg X.base CX k f fd ps sp) (hr : Room k X.A) (hb : Binds X.K fd ps []) (hx : Passes CX X E) : OpR X (inplaceOp op) (rInOwn C sp E) := by
  intro pins s σ H x y v u Q I rx ry h
  obtain ⟨a, dx, fs, rfl, ea, q⟩ := h
  cases (show v = Value.ref a from rx)
  obtain ⟨od, ox, J⟩ := inst_at I ea
  obtain ⟨m, fr⟩ := I.fr
  refine PySem.W.ksp_inplace fr I.ok.mod.kin J c.self1 c.at_ c.fn ?_
  refine wpAny_mono (run_fn (dvs := []) (ds := []) (us := [.ref a, u]) (vs := [.ref a, y]) F hr hb .nil hx I (.cons rfl (.cons ry .nil)) q) (fun w s' z => ?_) fun _ _ x => x
  obtain ⟨z', H', I', rz, qz⟩ := z
  exact SlX.cmpback rz ⟨z', H', I', rz, qz⟩
end
end Tw
namespace Tw
open PySem PySem.Spec PyProof.Rows L2 He
/-! ### a staticmethod called by its class -/
structure CSta (K : PySem.W.Frag) (C : Addr) (m : Str) (p g : Addr) : Prop where
  at_ : PySem.W.findCls K (.ref C) (.type "type") m = some (.get (.builtin "staticmethod.__get__") (.ref p) .none (.ref C))
  rc : ∃ rest, PySem.W.recIn K p "staticmethod" = some (.ref g :: rest)
  kp : PySem.W.keepIn K (.ref g) = true
/-- the def behind the record of C.m -/
def rcAt (K : PySem.W.Frag) (x m T : Str) : Addr := match PySem.W.recIn K (ma K (ga K x) m) T.toString with
  | some (.ref g :: _) => g
  | _ => 0
def cstaB (K : PySem.W.Frag) (x m : Str) : Bool := (match PySem.W.findCls K (.ref (ga K x)) (.type "type") m with
  | some (.get (.builtin b) (.ref p) .none (.ref C)) => decide (b = "staticmethod.__get__") && (decide (p = ma K (ga K x) m) && decide (C = ga K x))
  | _ => false) && ((match PySem.W.recIn K (ma K (ga K x) m) "staticmethod" with
  | some (.ref g :: _) => decide (g = rcAt K x m "staticmethod")
  | _ => false) && PySem.W.keepIn K (.ref (rcAt K x m "staticmethod")))
theorem cstaB_ok {K : PySem.W.Frag} {x m : Str} (h : cstaB K x m = true) : CSta K (ga K x) m (ma K (ga K x) m) (rcAt K x m "staticmethod") := by
  obtain ⟨h1, h⟩ := ba h
  obtain ⟨h2, h3⟩ := ba h
  refine ⟨?_, ?_, h3⟩
  · split at h1
    · rename_i b p C e
      obtain ⟨a1, a⟩ := ba h1
      obtain ⟨a2, a3⟩ := ba a
      rw [e, of_decide_eq_true a1, of_decide_eq_true a2, of_decide_eq_true a3]
    · cases h1
  · split at h2
    · rename_i g rest e
      exact ⟨rest, by rw [e, of_decide_eq_true h2]⟩
    · cases h2
section
variable {X : Cx} {CX : CXT} {k : Nat} {C p g : Addr} {fd : FuncData} {ps : List Str} {sp : Sp} {dvs : List V} {ds : List Value} {E : XK} {o e : Expr} {es : List Expr} {m : Str} {pos apos : Pos} {ta : TE} {t : TA} {pl : Sem Bool}
theorem typ_of {K : PySem.W.Frag} {mc : Value} (h : PySem.W.readsIn K C mc = true) : PySem.W.typeIn K (.ref C) = some mc := by
  simp only [PySem.W.readsIn, Bool.and_eq_true, beq_iff_eq] at h
  exact h.1.1.1.2
theorem pe_smeth (he : PE X o ta) (r : ClX.CRead X.K C (.type "type")) (c : CSta X.K C m p g) (F : FnOk X.prog X.w X.K X.mg X.base CX k g fd ps sp) (hr : Room k X.A) (hb : Binds X.K fd ps ds) (hd : Vals dvs ds) (hx : Passes CX X E) (ha : PA X (e :: es) t)
    (hst : starEach (e :: es) X.env = (false, eval e X.env) :: starEach es X.env := by rfl) (hpl : (backTo pos (starEach es X.env)).any (·.1) = false := by rfl)
    (ht : eval (.Call (.Attribute o m apos) (e :: es) [] pos) X.env = (do
      let ov ← eval o X.env
      standAt apos.atName
      let (f, first) ← holding [ov] (getMethod ov m pl)
      callWith pos f first (backTo pos (starEach (e :: es) X.env)) (backToKw pos (keywordEach [] X.env))) := by rfl) :
    PE X (.Call (.Attribute o m apos) (e :: es) [] pos) (fun σ H Q => ta σ H fun x H1 => x = .ref C ∧ t σ H1 fun vs H2 => sp (vs ++ dvs) H2 Q E) := by
  refine ⟨fun pins s σ H Q I h => ?_⟩
  refine PySem.W.methodCall_KW (pl := pl) (thn (he.run pins s σ H _ I h) fun u s1 ⟨x, H1, I1, rx, ex, q⟩ => ?_) ht
  subst ex
  obtain rfl : u = Value.ref C := rx
  obtain ⟨m', fr⟩ := I1.fr
  obtain ⟨rest, hp⟩ := c.rc
  refine PySem.W.method_cls I1.kIn r.ga (PySem.W.cls_sm fr I1.ok.mod.kin (typ_of r.rd) r.rd c.at_ hp rfl ?_)
  have I2 := I1.tok (s1.toks + 1)
  exact PySem.W.callWith_K (h₀ := X.base) I2.ok.mod.kin c.kp (thn (ha.run pos pins _ σ H1 _ I2 q) fun us s3 ⟨vs, H2, I3, rv, q2⟩ => ⟨I3.kIn, run_fn F hr hb hd hx I3 rv q2⟩) hst hpl
end
end Tw
/-! Tw: a staticmethod called within try; == of two lists of one and the same thing; slices and == within a comprehension. -/
namespace Tw
open PySem PySem.Spec PyProof.Rows L2 He
section
variable {X : Cx} {CX : CXT} {k : Nat} {C m' p g : Addr} {fd : FuncData} {ps : List Str} {sp : Sp} {E : L2.St → XK} {m : Str} {o e : Expr} {es : List Expr} {pos apos : Pos} {ta : TE} {t : TA}
theorem pe_smethS {pl : Sem Bool} (he : PE X o ta) (r : ClX.CRead X.K C (.type "type")) (c : CSta X.K C m p g) (F : FnOk X.prog X.w X.K X.mg X.base CX k g fd ps sp) (hr : Room k X.A) (hb : Binds X.K fd ps []) (hx : ∀ σ, PassesAt CX X σ (E σ)) (ha : PA X (e :: es) t)
    (hst : starEach (e :: es) X.env = (false, eval e X.env) :: starEach es X.env := by rfl) (hpl : (backTo pos (starEach es X.env)).any (·.1) = false := by rfl)
    (ht : eval (.Call (.Attribute o m apos) (e :: es) [] pos) X.env = (do
      let ov ← eval o X.env
      standAt apos.atName
      let (f, first) ← holding [ov] (getMethod ov m pl)
      callWith pos f first (backTo pos (starEach (e :: es) X.env)) (backToKw pos (keywordEach [] X.env))) := by rfl) :
    PE X (.Call (.Attribute o m apos) (e :: es) [] pos) (fun σ H Q => ta σ H fun x H1 => x = .ref C ∧ t σ H1 fun vs H2 => sp vs H2 Q (E σ)) := by
  refine ⟨fun pins s σ H Q I h => ?_⟩
  refine PySem.W.methodCall_KW (pl := pl) (thn (he.run pins s σ H _ I h) fun u s1 ⟨x, H1, I1, rx, ex, q⟩ => ?_) ht
  subst ex
  obtain rfl : u = Value.ref C := rx
  obtain ⟨m', fr⟩ := I1.fr
  obtain ⟨rest, hp⟩ := c.rc
  refine PySem.W.method_cls I1.kIn r.ga (PySem.W.cls_sm fr I1.ok.mod.kin (typ_of r.rd) r.rd c.at_ hp rfl ?_)
  have I2 := I1.tok (s1.toks + 1)
  exact PySem.W.callWith_K (h₀ := X.base) I2.ok.mod.kin c.kp (thn (ha.run pos pins _ σ H1 _ I2 q) fun us s3 ⟨vs, H2, I3, rv, q2⟩ => ⟨I3.kIn, L2.run_fnS F hr hb (hx σ) I3 rv q2⟩) hst hpl
end
section
variable {X : Cx}
/-- xs == ys: data, or two lists of one and the same object -/
def rEqSame (K : PySem.W.Frag) : R2 := fun x y H Q => rEqD K x y H Q ∨ ∃ a b c : Addr, x = .ref a ∧ y = .ref b ∧ H a = some (.lst [.ref c]) ∧ H b = some (.lst [.ref c]) ∧ Q (.bl true) H
theorem op_eqSame (hu : X.A.units + 64 < cLine) : OpR X (compareOp .Eq) (rEqSame X.K) := by
  intro pins s σ H x y v u Q I rx ry h
  rcases h with h | ⟨a, b, c, rfl, rfl, ha, hb, q⟩
  · exact op_eqD hu pins s σ H x y v u Q I rx ry h
  · obtain rfl : v = Value.ref a := rx
    obtain rfl : u = Value.ref b := ry
    obtain ⟨i1, r1, p1, _⟩ := I.list (SqL.of ha)
    obtain ⟨i2, r2, p2, _⟩ := I.list (SqL.of hb)
    obtain ⟨u1, rfl, e1⟩ := vals1 r1
    obtain ⟨u2, rfl, e2⟩ := vals1 r2
    cases (show u1 = Value.ref c from e1)
    cases (show u2 = Value.ref c from e2)
    refine SeqAt.eq_listAt (e := fun _ => true) p1.isList p2.isList rfl (by omega) (fun j h1 h2 => ?_) ?_
    · have e : j = 0 := by
        have : j < 1 := h1
        omega
      subst e
      exact SeqAt.EqAt.same _
    · exact ⟨.bl true, H, I, rfl, q⟩
end
theorem eqDK {X : Cx} (K : PySem.W.Frag) (hu : X.A.units + 64 < cLine) (h : X.K = K := by rfl) : OpR X (compareOp .Eq) (rEqD K) := by
  subst h
  exact op_eqD hu
/-- a[lo:hi] of a list, the new list in an abstract heap -/
def rSlN (K : PySem.W.Frag) : V → Option Int → Option Int → Hp → VK → Prop := fun x lo hi H Q => ∃ a xs, x = .ref a ∧ SqL K H a xs ∧ ∀ (p : Addr) (H' : Hp), H p = none → Same H H' → H' p = some (.lst (cutV xs lo hi)) → Q (.ref p) H'
theorem sl_listN {X : Cx} : SlR X (rSlN X.K) := by
  intro pins s σ H x v vl vu lo hi sl Q I rx hs pl pu h
  obtain ⟨a, xs, ex, hx, q⟩ := h
  exact sl_list pins s σ H x v vl vu lo hi sl Q I rx hs pl pu ⟨a, xs, ex, hx, fun p hp => q p _ hp (same_new hp) upd_same⟩
theorem slK {X : Cx} (K : PySem.W.Frag) (h : X.K = K := by rfl) : SlR X (rSlN K) := by
  subst h
  exact sl_listN
theorem But.free {p q : Addr} {H H' : Hp} (B : But p H H') (h : H' q = none) (hq : q ≠ p) : H q = none := by
  cases e : H q with
  | none => rfl
  | some o =>
    have z := B q o e hq
    rw [h] at z
    cases z
end Tw
/-! Tw: 3 * x, x of an own class. -/
namespace Tw
open PySem PySem.Spec PyProof.Rows L2 He
theorem int_mul_inst (a : Int) (t : Tok) (y : Addr) (ox : Obj) (hd : ox.data = .plain) :
    Meets (Builtin.«int.__mul__» ⟨[.int a t, .ref y], []⟩) (fun _ R s => s.heap.get? y = some ox ∧ R (.ok (.ret Value.notImplemented)) s) :=
  .of_wp fun prog w A R s h => by
    obtain ⟨hp, g, d, tk, os⟩ := s
    obtain ⟨hl, h⟩ := h
    obtain ⟨oc, od, dt, sl⟩ := ox
    cases hd
    wp_walk
    exact ⟨_, rfl, h⟩
theorem int_mul_dec {prog : Program} {w : World} {A : Around} {E : Value → Shared → Prop} {s : Shared} {a : Int} {t : Tok} {y : Addr} {oy : Obj} {Q : Value → Shared → Prop} (J : s.heap.get? y = some oy) (hd : oy.data = .plain) (h : Q .notImplemented s) :
    wpAny (model prog w) A (call (.builtin "int.__mul__") [.int a t, .ref y]) Q E s := by
  refine call_meets (T := "int") (name := PySem.dunder "mul") (id := "int.__mul__") (self := .int a t) (rest := [.ref y]) F.slot_int_mul (typeIs_int s a t) F.entry_int_mul (F.args_int_mul_2 (.int a t) (.ref y)) (int_mul_inst a t y oy hd) ?_
  exact ⟨J, h⟩
theorem int_try {prog : Program} {w : World} {A : Around} {E : Value → Shared → Prop} {s : Shared} {a : Int} {t : Tok} {y : Addr} (nm : Str) (sl : Slot "int" nm "int.__mul__")
    (h0 : wpAny (model prog w) A (call (.builtin "int.__mul__") [.int a t, .ref y]) (fun v s' => v = .notImplemented ∧ (none : Option Value) = none ∧ s' = s) E s) :
    wpAny (model prog w) A (tryMethod (.int a t) nm (.ref y)) (fun r s' => r = none ∧ s' = s) E s := by
  exact wpAny_tryMethod_declines (T := "int") (id := "int.__mul__") (Q := fun r s' => r = none ∧ s' = s) (typeIs_int s a t) sl h0
open PySem.W in
theorem bin_reflI {prog : Program} {w : World} {A : Around} {E : Value → Shared → Prop} {s : Shared} {K : Frag} {y C f f0 : Addr} {oy : Obj} {od : Option Obj} {a : Int} {t : Tok} {ro : Option Value} {Q : Value → Shared → Prop}
    (Y : K.In s.heap) (J : InstAt s.heap y oy C od) (hd : oy.data = .plain) (c : OwnB K C (PySem.dunderR "mul") f) (hm0 : findIn K (.ref C) (PySem.dunder "mul") = some (some (.ref f0)))
    (h2 : findIn K (.type "int") (PySem.dunderR "mul") = some ro) (hsub : subIn K (.ref C) (.type "int") = some false)
    (h : wpAny (model prog w) A (call (.ref f) [.ref y, .int a t]) (PySem.W.CmpBack Q) E s) : wpAny (model prog w) A (binaryOp .Mult (.int a t) (.ref y)) Q E s := by
  obtain ⟨cd, rest, hcd, hm⟩ := ksp_first c.self1
  have one := ksp_try Y J c.at_ c.fn h
  have dec : wpAny (model prog w) A (tryMethod (.int a t) (PySem.dunder "mul") (.ref y)) (fun r s' => r = none ∧ s' = s) E s := int_try (PySem.dunder "mul") F.slot_int_mul (int_mul_dec J.1 hd ⟨rfl, rfl, rfl⟩)
  obtain ⟨hh, g, d, tt, os⟩ := s
  have L1 : Looks (model prog w) hh (typeOf (.ref y)) (.ref C) := J.type
  have L2 : Looks (model prog w) hh (typeOf (.int a t)) (.type "int") := Looks.of_pure rfl
  have L3 : Looks (model prog w) hh (fillsNumberSlot (.ref C) "mul") true := fills_K Y hcd hm hm0
  have L4 : Looks (model prog w) hh (fillsNumberSlot (.type "int") "mul") true := Looks.of_pure F.fills_int_mul
  have L5 : Looks (model prog w) hh (isSubtype (.ref C) (.type "int")) false := looks_subIn Y hsub
  have L7 : Looks (model prog w) hh (numberSlotInPython (.type "int") "mul") false := Looks.of_pure rfl
  have hne : (Value.type "int" == Value.ref C) = false := Bool.eq_false_iff.mpr fun q => by cases beq_iff_eq.mp q
  have hi : Operator.Mult.info = ("*", "mul") := rfl
  simp only [binaryOp, hi]
  refine wpAny_holding (wpAny_bind ?_)
  unfold binaryOp1
  refine wpAny_bind (L2.at (wpAny_bind (L1.at (wpAny_bind (L4.at ?_)))))
  simp only [hne, Bool.false_eq_true, if_false]
  ksp_lk
  refine wpAny_mono dec (fun r s' hr' => ?_) fun _ _ e => e
  obtain ⟨rfl, rfl⟩ := hr'
  ksp_lk
  refine wpAny_mono one (fun r s' hr' => ?_) fun _ _ e => e
  obtain ⟨v, rfl, hq⟩ := hr'
  ksp_lk
  exact hq

section
variable {X : Cx} {CX : CXT} {k : Nat} {f C : Addr} {fd : FuncData} {ps : List Str} {sp : Sp} {E : XK}
/-- 3 * x -/
def rBinRI (C : Addr) (sp : Sp) (E : XK) : R2 := fun x y H Q => ∃ (i : Int) (a dx : Addr) (fs : List (Str × V)), x = .int i ∧ y = .ref a ∧ H a = some (.ins C dx fs) ∧ sp [y, x] H Q E
theorem op_binRI {f0 : Addr} (c : OwnB X.K C (PySem.dunderR "mul") f) (c0 : OwnB X.K C (PySem.dunder "mul") f0) (t : BinT X.K C .Mult "int") (hsub : PySem.W.subIn X.K (.ref C) (.type "int") = some false)
    (F : FnOk X.prog X.w X.K X.mg X.base CX k f fd ps sp) (hr : Room k X.A) (hb : Binds X.K fd ps []) (hx : Passes CX X E) : OpR X (binaryOp .Mult) (rBinRI C sp E) := by
  intro pins s σ H x y v u Q I rx ry h
  obtain ⟨i, a, dx, fs, rfl, rfl, ea, q⟩ := h
  cases (show u = Value.ref a from ry)
  obtain ⟨tk, rfl⟩ := rx
  obtain ⟨ox, od, J, hd⟩ := StX.insC_at I (C := C) (.inr ⟨dx, fs, ea⟩)
  obtain ⟨ro, h2⟩ := t.r
  refine bin_reflI I.kIn J hd c c0.at_ h2 hsub ?_
  refine wpAny_mono (run_fn (dvs := []) (ds := []) (us := [.ref a, .int i tk]) (vs := [.ref a, .int i]) F hr hb .nil hx I (.cons rfl (.cons ⟨tk, rfl⟩ .nil)) q) (fun w s' z => ?_) fun _ _ x => x
  obtain ⟨z', H', I', rz, qz⟩ := z
  exact SlX.cmpback rz ⟨z', H', I', rz, qz⟩
end
end Tw
/-! Tw: lambdas: a try whose clause knows how many names there are; the head's hook with tables of code objects. -/
namespace Tw
open PySem PySem.Spec PyProof.Rows L2 He
/-- what the clause wishes: its error stands tracked behind the suite -/
def wAsL (K : PySem.W.Frag) (c : Value) (i : Nat) (ts : Addr → Value → Option Addr → TS) (Wout : WX) (n : Nat) (D : Ends) : WX := fun cls d σ H => σ.length = n →
  ∃ (C : Addr) (b : Bool), cls = .ref C ∧ PySem.W.exmOne K cls c = some b ∧ (b = true → ∀ a, H a = none → ts a cls d { nx := fun σ' H' => D.nx (σ'.set i none) (upd H' a (exT a C d)), rt := D.rt, bk := fun σ' H' => D.bk (σ'.set i none) H', ct := fun σ' H' => D.ct (σ'.set i none) H' } (σ.set i (some (.ref a))) H) ∧
    (b = false → Wout cls d σ H)
section
variable {X : Cx} {x n : Str} {c : Value} {i : Nat} {body suite : List Stmt} {b₀ : Stmt} {np pos pos' : Pos} {tb : WX → TS} {ts : Addr → Value → Option Addr → TS} {Wout : WX}
theorem ps_tryL (hex : X.ex = []) (hs : X.stack = X.env :: X.outer) (hf : X.env.frame = some X.env.locals) (hN : X.N.Nodup) (hi : X.N[i]? = some n) (hln : X.env.kindOf n = some .local) (hc : Names X x c) (tk : Takes X Wout)
    (hb : ∀ (W : WX) (pn : List (Addr × Obj)) (xe : Value → Shared → Prop), Takes (X.tr pn xe) W → PassesOwn (model X.prog X.w) X.A X.env xe → PSs (X.tr pn xe) body (tb W))
    (hsu : ∀ (a : Addr) (oe : Obj) (cls : Value) (d : Option Addr) (pn : List (Addr × Obj)), Zc cls d oe → (∃ vs, oe.data = .fields vs) → PSs (X.suite a ((a, oe) :: pn)) (b₀ :: suite) (ts a cls d)) :
    PS X (.Try body [.ExceptHandler (some (.Name x np)) (some n) (b₀ :: suite) pos'] [] [] pos) (fun D σ H => tb (wAsL X.K c i ts Wout X.N.length D) D σ H) := by
  refine ⟨fun pins s σ H D I h => ?_⟩
  have ok := I.ok
  have hfr : X.A.frames = some (X.env :: X.outer) := by rw [ok.frames, hs]
  have hloc : Loc X.env.scope n := .inl hln
  refine wpAny_Try_except ?_
  refine wpAny_mono ((hb (wAsL X.K c i ts Wout X.N.length D) (X.pn ++ pins) (fun e s₁ => wpAny (model X.prog X.w) X.A (noteFrame e X.env) (fun _ s₂ => wpAny (model X.prog X.w) X.A (setFlight e none) (fun _ s₃ =>
    wpAny (model X.prog X.w) X.A (handleBy e X.env [.ExceptHandler (some (.Name x np)) (some n) (b₀ :: suite) pos']) (SP X pins D) X.xe s₃) X.xe s₂) X.xe s₁) (fun u s' xx => ?_) PassesOwn.looking).run [] s σ H D (I.toTry _) h) (fun f s1 hsp => ?_) (fun e s1 he => he)
  · obtain ⟨a, B, sI, pins', σ', H', cls, d, rfl, J', nb, up, sky, na, os, ag, hw⟩ := xx
    obtain ⟨C, b, hcls, hb1, hyes, hno⟩ := hw J'.len
    have J : Inv X pins σ' H' sI := J'.ofTry ok
    have sky' : Sky B (X.env :: X.outer) a (Zc cls d) X.env.locals s'.heap := by rw [← hs]; exact sky
    show wpAny (model X.prog X.w) X.A (noteFrame (.ref a) X.env) _ _ _
    refine Sky.land Zc.steady hfr hf sky' fun h3 fl3 up3 => ?_
    have J3 : Inv X pins σ' H' { s' with heap := h3 } := J.landed nb fl3.1 (up.trans up3) os ag
    obtain ⟨oe3, vs3, he3, hz3, hd3⟩ := fl3.there
    have notFr : ∀ {h : Heap} {o : Obj} {vs : Array Value}, h.FunFrames B (X.env :: X.outer) → h.get? a = some o → o.data = .fields vs → a ∉ frs (X.env :: X.outer) := fun {h o vs} ff e dd hm => by
      obtain ⟨_, o', e', hnf⟩ := ff.mem hm
      rw [e] at e'
      cases e'
      exact hnf _ dd
    have nfr := notFr fl3.2.2.1 he3 hd3
    have nL : a ≠ X.env.locals := fun z => nfr (List.mem_filterMap.mpr ⟨X.env, List.mem_cons_self, by rw [hf, z]⟩)
    have nF : a ∉ X.fs := fun hm => by
      obtain ⟨e, he, q⟩ := List.mem_filterMap.mp hm
      exact nfr (List.mem_filterMap.mpr ⟨e, List.mem_cons_of_mem _ he, q⟩)
    -- the error is new to this def
    have nI : sI.heap.get? a = none := by
      cases e : sI.heap.get? a with
      | none => rfl
      | some o =>
        have z := nb a o e (by rw [hs]; exact nfr)
        have z2 : B.get? a = none := fl3.2.1
        rw [z2] at z
        cases z
    have n0 : X.s_0.heap.get? a = none := by
      cases e : X.s_0.heap.get? a with
      | none => rfl
      | some o =>
        obtain ⟨o', z⟩ := J.base.there a o e (by rw [hex]; exact fun z => nomatch z)
        rw [nI] at z
        cases z
    have npin : ∀ p ∈ X.pn ++ pins, p.1 ≠ a := fun p hp z => by
      obtain ⟨e, _⟩ := J.pin p hp
      rw [z, nI] at e
      cases e
    have S3 := J3.suite he3 hd3 na nL nF
    refine wpAny_handleBy_cons (codeAny_handlers_test ?_) (by intro q; cases q)
    have LT : PySem.W.Looks (model X.prog X.w) h3 (typeOf (.ref a)) cls := fun A Q E s k q => wpAny_typeOf_ref (k _ _ he3) (by rw [hz3.1]; exact q)
    have LM := PySem.W.exm_one (M := model X.prog X.w) (J3.kIn) LT hb1
    have test : ∀ {Q : Value → Shared → Prop} {E : Value → Shared → Prop}, Q c { s' with heap := h3 } → wpAny (model X.prog X.w) (X.A.mark (some (.ref a))) (eval (.Name x np) X.env) Q E { s' with heap := h3 } := fun {Q E} q => by
      obtain ⟨hg, hdbg, hm | ⟨hm, hv, hnn⟩⟩ := hc
      · exact ld_glob (X := X.suite a ((a, oe3) :: (X.pn ++ pins))) S3 hg hm q hdbg
      · exact ld_blt (X := X.suite a ((a, oe3) :: (X.pn ++ pins))) S3 hg hm hv q hnn hdbg
    refine test (LM.here ?_)
    cases b with
    | true =>
      refine codeAny_handlers_suite_as ?_
      refine HandSPX.lands_againZ fl3 fun h4 fl4 up4 => ?_
      have J4 : Inv X pins σ' H' { s' with heap := h4 } := J.landed nb fl4.1 ((up.trans up3).trans up4) os ag
      obtain ⟨oe4, vs4, he4, hz4, hd4⟩ := fl4.there
      have S4 := J4.suite he4 hd4 na nL nF
      refine store_ok (X := X.suite a ((a, oe4) :: (X.pn ++ pins))) (v := .ref a) S4 hN hi hloc rfl (fun s5 S5 => ?_) (.inr hln)
      refine wpAny_mono ((hsu a oe4 cls d (X.pn ++ pins) hz4 ⟨_, hd4⟩).run [] s5 _ H' _ S5 (hyes rfl a na)) (fun f s6 hsp => ?_) (fun _ _ z => False.elim z)
      have end_ : ∀ {σ6 : L2.St} {H6 : Hp} {Q : Shared → Prop}, Inv (X.suite a ((a, oe4) :: (X.pn ++ pins))) [] σ6 H6 s6 → (∀ s7, Inv X ((a, oe4) :: pins) (σ6.set i none) H6 s7 → Q s7) →
          wpAny (model X.prog X.w) X.A (do bindName X.env n .none; unbindBehindTheSuite X.env n pos') (fun _ s7 => Q s7) X.xe s6 := fun {σ6 H6 Q} S6 hq => by
        have J6 : Inv X ((a, oe4) :: pins) σ6 H6 s6 := (S6.unsuite ok).pins_of fun p hp => S6.pin p (List.mem_append_left _ (by
          rcases List.mem_cons.mp hp with z | z
          · exact List.mem_cons.mpr (.inl z)
          · exact List.mem_cons_of_mem _ (List.mem_append_right _ z)))
        exact gone_ok J6 hN hi hln hq
      have drop : ∀ {σ7 : L2.St} {H7 : Hp} {s7 : Shared}, Inv X ((a, oe4) :: pins) σ7 H7 s7 → Inv X pins σ7 H7 s7 := fun J7 => J7.pins_of fun p hp => J7.pin p (List.mem_append_right _ (List.mem_cons_of_mem _ hp))
      subst hcls
      cases f with
      | next =>
        obtain ⟨σ6, H6, S6, q6⟩ := hsp
        exact end_ S6 fun s7 J7 => ⟨_, _, track J7 n0 npin hz4 hd4, q6⟩
      | brk =>
        obtain ⟨σ6, H6, S6, q6⟩ := hsp
        exact end_ S6 fun s7 J7 => ⟨_, _, drop J7, q6⟩
      | cont =>
        obtain ⟨σ6, H6, S6, q6⟩ := hsp
        exact end_ S6 fun s7 J7 => ⟨_, _, drop J7, q6⟩
      | ret u =>
        obtain ⟨v6, σ6, H6, S6, r6, q6⟩ := hsp
        exact end_ S6 fun s7 J7 => ⟨_, _, _, drop J7, r6, q6⟩
    | false =>
      show wpAny _ X.A (handleBy (.ref a) X.env []) _ _ _
      refine wpAny_handleBy_nil ?_
      obtain ⟨k1, k2, k3, oe, vs, T, oT, ts', he, hz, hd, h1, hr⟩ := id fl3
      unfold PySem.passOn
      refine wpAny_bind (wpAny_field he hd h1 ?_)
      rw [if_neg (show ¬ ((Value.ref T == Value.none) = true) from by simp)]
      have fin : wpAny (model X.prog X.w) X.A (setFlight (.ref a) X.env.frame) (fun _ s4 => wpAny (model X.prog X.w) X.A (throw (.ref a) : Sem Flow) (SP X pins D) X.xe s4) X.xe { s' with heap := h3 } := by
        rw [hf]
        refine HandSPX.setFlight_upZ fl3 fun h4 hh4 up4 => wpAny_throw (tk _ _ ?_)
        exact ⟨a, B, sI, pins, σ', H', cls, d, rfl, J, nb, (up.trans up3).trans up4, .inr (.inr (by rw [hs]; exact hh4)), na, os, ag, hno rfl⟩
      first
        | exact wpAny_bind (wpAny_pure (wpAny_bind fin))
        | exact wpAny_bind fin
  · cases f with
    | next =>
      obtain ⟨σ', H', J', q⟩ := hsp
      exact wpAny_execs_nil ⟨σ', H', J'.ofTry ok, q⟩
    | brk =>
      obtain ⟨σ', H', J', q⟩ := hsp
      exact ⟨σ', H', J'.ofTry ok, q⟩
    | cont =>
      obtain ⟨σ', H', J', q⟩ := hsp
      exact ⟨σ', H', J'.ofTry ok, q⟩
    | ret u =>
      obtain ⟨v, σ', H', J', r, q⟩ := hsp
      exact ⟨v, σ', H', J'.ofTry ok, r, q⟩
end

/-! ### the hook with empty tables of code objects -/
def codeAt (K : Fg) (f : Addr) : Addr := match K.lookup f with
  | some ⟨_, _, .func fd, _⟩ => (match fd.code with
    | .ref c => c
    | _ => 0)
  | _ => 0
def tabAt (K : Fg) (f : Addr) : Addr := match K.lookup (codeAt K f) with
  | some ⟨_, _, .fields vs, _⟩ => (match (vs[11]? : Option Value) with
    | some (.ref P) => P
    | _ => 0)
  | _ => 0
def isTab : Option Obj → Bool
  | some ⟨.none, none, .fields vs, sl⟩ => vs.isEmpty && sl.isEmpty
  | _ => false
theorem isTab_ok {o : Option Obj} (h : isTab o = true) : o = some { cls := .none, data := .fields #[] } := by
  unfold isTab at h
  split at h
  · rename_i vs sl
    obtain ⟨h1, h2⟩ := ba h
    have e1 : vs = #[] := by simpa using h1
    have e2 : sl = #[] := by simpa using h2
    rw [e1, e2]
  · cases h
/-- the def at f: its code object and the table of it -/
def tabB (K : Fg) (f : Addr) : Bool := PySem.W.codeHdIn K (codeAt K f) (tabAt K f) && (K.lookup (tabAt K f)).isNone
abbrev AlL : Type := AlD × List Bool
def obsL (n : Nat) (fs : Fz) (fn : List DefD) (ls : List (Fg → Addr)) (g : Addr → Option Obj) : AlL := (obsYG n fs fn g, ls.map fun f => isTab (g (tabAt (frG g (asD g n)) (f (frG g (asD g n))))))
def hookL (n : Nat) (fs : Fz) (fn : List DefD) (ls : List (Fg → Addr)) : PySem.W.Hook where
  α := AlL
  obs := fun s => obsL n fs fn ls s.heap.get?
  val := fun _ => (valD fn, ls.map fun _ => true)
  says := fun _ h => ∃ K : Fg, K.In h ∧ SaysY fs fn K ∧ ∀ f ∈ ls, isTab (h.get? (tabAt K (f K))) = true
  of := fun _ s e => ⟨_, frG_in, congrArg (fun z : AlL => z.1) e, fun f hf => List.map_inj_left.mp (congrArg (fun z : AlL => z.2) e) f hf⟩
  keeps := fun _ _ _ ⟨K, hK, c, t⟩ k => ⟨K, PySem.W.Frag.In.keeps hK k, c, fun f hf => by
    have e := isTab_ok (t f hf)
    rw [k _ _ e]
    rfl⟩
theorem obsL_eq {n : Nat} {fs : Fz} {fn : List DefD} {ls : List (Fg → Addr)} {g : Addr → Option Obj} {s : Shared} (h : ∀ a, g a = s.heap.get? a) : obsL n fs fn ls g = (hookL n fs fn ls).obs s := by
  have e : g = s.heap.get? := funext h
  rw [e] <;> rfl

/-! ### x[i] = v by an own __setitem__ -/
section
variable {X : Cx} {CX : CXT} {k : Nat} {f C : Addr} {fd : FuncData} {ps : List Str} {sp : Sp} {E : XK}
def setOwn (C : Addr) (sp : Sp) (E : XK) : V → V → V → Hp → (Hp → Prop) → Prop := fun o i v H Q => ∃ (a dx : Addr) (fs : List (Str × V)), o = .ref a ∧ H a = some (.ins C dx fs) ∧ sp [o, i, v] H (fun _ H' => Q H') E
theorem pset_own (hq : PySem.W.noSeq X.K C = true) (hs : PySem.W.findIn X.K (.ref C) "__setitem__" = some (some (.ref f))) (hf : PySem.W.isFn X.K (.ref f) = true) (F : FnOk X.prog X.w X.K X.mg X.base CX k f fd ps sp) (hr : Room k X.A) (hb : Binds X.K fd ps []) (hx : Passes CX X E) : PSet X (setOwn C sp E) := by
  intro pins s σ H o i v ov iv u Q I ro ri rv h
  obtain ⟨a, dx, fs, rfl, ea, q⟩ := h
  cases (show ov = Value.ref a from ro)
  obtain ⟨od, ox, J⟩ := inst_at I ea
  obtain ⟨m, fr⟩ := I.fr
  refine PySem.W.ksp_setItem fr I.ok.mod.kin J hq hs hf ?_
  refine wpAny_mono (run_fn (dvs := []) (ds := []) (us := [.ref a, iv, u]) (vs := [.ref a, i, v]) F hr hb .nil hx I (.cons rfl (.cons ri (.cons rv .nil))) q) (fun w s' z => ?_) fun _ _ x => x
  obtain ⟨z', H', I', rz, qz⟩ := z
  exact ⟨H', I', qz⟩
end
end Tw
/-! Tw: the head's hook with defs at any address (methods behind staticmethod, classmethod, property). -/
namespace Tw
open PySem PySem.Spec PyProof.Rows L2 He
abbrev DefA := He5.DefA
abbrev AlA : Type := (Bool × List FnW) × List (Option (List (Option (Str × Int))))
def obsA (fs : Fz) (fn : List DefA) (ts : List Tab) (K : Fg) : AlA := (((fs.all fun f => f K) && fn.all fun d => d.ok K, fn.map fun d => He5.fnA K (d.at_ K)), ts.map fun t => dicW K (t.1 K))
def valA (fn : List DefA) (ts : List Tab) (w : World) : AlA := ((true, fn.map He5.DefA.val), ts.map fun t => some (keysIn w.params t.2))
def obsAG (n : Nat) (fs : Fz) (fn : List DefA) (ts : List Tab) (g : Addr → Option Obj) : AlA := obsA fs fn ts (frG g (asD g n ++ [cStatics]))
def SaysA (fs : Fz) (fn : List DefA) (ts : List Tab) (w : World) (K : Fg) : Prop := obsA fs fn ts K = valA fn ts w
def hookA (n : Nat) (fs : Fz) (fn : List DefA) (ts : List Tab) : PySem.W.Hook where
  α := AlA
  obs := fun s => obsAG n fs fn ts s.heap.get?
  val := fun w => valA fn ts w
  says := fun w h => ∃ K : Fg, K.In h ∧ SaysA fs fn ts w K
  of := fun _ _ e => ⟨_, frG_in, e⟩
  keeps := fun _ _ _ ⟨K, hK, c⟩ k => ⟨K, PySem.W.Frag.In.keeps hK k, c⟩
theorem obsAG_eq {n : Nat} {fs : Fz} {fn : List DefA} {ts : List Tab} {g : Addr → Option Obj} {s : Shared} (h : ∀ a, g a = s.heap.get? a) : obsAG n fs fn ts g = (hookA n fs fn ts).obs s := by
  have e : g = s.heap.get? := funext h
  rw [e] <;> rfl
abbrev DefsA (fn : List DefA) (K : Fg) (fd : Nat → FuncData) : Prop := ∀ (i : Nat) (d : DefA), fn[i]? = some d → FunD K d.name d.qual d.params d.body d.scope (d.dvs K) (d.kws K) (d.at_ K) (fd i)
section
variable {fs : Fz} {fn : List DefA} {ts : List Tab} {w : World} {K : Fg}
theorem SaysA.fact (c : SaysA fs fn ts w K) (i : Nat) {f : Fg → Bool} (h : fs[i]? = some f) : f K = true := by
  have c1 := (ba (show ((fs.all fun f => f K) && fn.all fun d => d.ok K) = true from congrArg (fun z : AlA => z.1.1) c)).1
  exact List.all_eq_true.mp c1 f (List.mem_of_getElem? h)
theorem SaysA.def_ (c : SaysA fs fn ts w K) (i : Nat) {d : DefA} (h : fn[i]? = some d) : ∃ fd, FunD K d.name d.qual d.params d.body d.scope (d.dvs K) (d.kws K) (d.at_ K) fd := by
  have c2 := (ba (show ((fs.all fun f => f K) && fn.all fun d => d.ok K) = true from congrArg (fun z : AlA => z.1.1) c)).2
  have e : fn.map (fun d => He5.fnA K (d.at_ K)) = fn.map He5.DefA.val := congrArg (fun z : AlA => z.1.2) c
  have e2 : (fn.map fun d => He5.fnA K (d.at_ K))[i]? = (fn.map He5.DefA.val)[i]? := by rw [e]
  rw [List.getElem?_map, List.getElem?_map, h] at e2
  exact He5.DefA.funD (Option.some.inj e2) (List.all_eq_true.mp c2 d (List.mem_of_getElem? h))
theorem SaysA.tab (c : SaysA fs fn ts w K) (i : Nat) {t : Tab} (h : ts[i]? = some t) : ∃ es n, KDict K w (t.1 K) es n := by
  have e : ts.map (fun t => dicW K (t.1 K)) = ts.map fun t => some (keysIn w.params t.2) := congrArg (fun z : AlA => z.2) c
  have e2 : (ts.map fun t => dicW K (t.1 K))[i]? = (ts.map fun t => some (keysIn w.params t.2))[i]? := by rw [e]
  rw [List.getElem?_map, List.getElem?_map, h] at e2
  exact dicW_ok (Option.some.inj e2)
theorem SaysA.defs (c : SaysA fs fn ts w K) {d0 : DefA} (h0 : fn[0]? = some d0) : ∃ fd : Nat → FuncData, DefsA fn K fd := by
  obtain ⟨u0, _⟩ := c.def_ 0 h0
  have h : ∀ i : Nat, ∃ u : FuncData, ∀ d : DefA, fn[i]? = some d → FunD K d.name d.qual d.params d.body d.scope (d.dvs K) (d.kws K) (d.at_ K) u := fun i => by
    cases e : fn[i]? with
    | none => exact ⟨u0, fun d z => nomatch z⟩
    | some d =>
      obtain ⟨u, hu⟩ := c.def_ i e
      exact ⟨u, fun d' z => by
        cases z
        exact hu⟩
  exact ⟨fun i => Classical.choose (h i), fun i d e => Classical.choose_spec (h i) d e⟩
end
/-- what the walk asks of the written part and of the module's names -/
structure TxtA (fs : Fz) (fn : List DefA) (ts : List Tab) (w : World) (K : Fg) (mg : Str → Option Value) : Prop where
  c : SaysA fs fn ts w K
  gl : ∀ x, (Fa.glo x).ok K = true → mg x = some (.ref (ga K x))
  fr : ∀ x, (Fa.free x).ok K = true → mg x = none
  nt : ∀ x i, (Fa.int x i).ok K = true → ∃ t, mg x = some (.int i t)
  tx : ∀ x z, (Fa.str x z).ok K = true → ∃ t, mg x = some (.str z t)
theorem TxtA.fact {fs : Fz} {fn : List DefA} {ts : List Tab} {w : World} {K : Fg} {mg : Str → Option Value} (T : TxtA fs fn ts w K mg) (i : Nat) {f : Fg → Bool} (h : fs[i]? = some f := by rfl) : f K = true := T.c.fact i h
end Tw
/-! Tw: the head's hook for laws with lambdas: defs at any address, the tables of code objects left out of the fragment and told empty. -/
namespace Tw
open PySem PySem.Spec PyProof.Rows L2 He
def obsZ (fs : Fz) (fn : List DefA) (K : Fg) : AlD := ((fs.all fun f => f K) && fn.all fun d => d.ok K, fn.map fun d => He5.fnA K (d.at_ K))
def valZ (fn : List DefA) : AlD := (true, fn.map He5.DefA.val)
def SaysZ (fs : Fz) (fn : List DefA) (K : Fg) : Prop := obsZ fs fn K = valZ fn
section
variable {fs : Fz} {fn : List DefA} {K : Fg}
theorem SaysZ.fact (c : SaysZ fs fn K) (i : Nat) {f : Fg → Bool} (h : fs[i]? = some f := by rfl) : f K = true := by
  obtain ⟨c1, _⟩ := ba (congrArg (fun z : AlD => z.1) (show obsZ fs fn K = valZ fn from c))
  exact of_all (f := fun f : Fg → Bool => f K) c1 (List.mem_of_getElem? h)
theorem SaysZ.def_ (c : SaysZ fs fn K) (i : Nat) {d : DefA} (h : fn[i]? = some d) : ∃ fd, FunD K d.name d.qual d.params d.body d.scope (d.dvs K) (d.kws K) (d.at_ K) fd := by
  obtain ⟨_, c2⟩ := ba (congrArg (fun z : AlD => z.1) (show obsZ fs fn K = valZ fn from c))
  have e2 : fn.map (fun d => He5.fnA K (d.at_ K)) = fn.map He5.DefA.val := congrArg (fun z : AlD => z.2) c
  have e3 := congrArg (fun l : List FnW => l[i]?) e2
  simp only [List.getElem?_map, h, Option.map_some] at e3
  exact He5.DefA.funD (Option.some.inj e3) (of_all (f := fun d : DefA => d.ok K) c2 (List.mem_of_getElem? h))
theorem SaysZ.defs (c : SaysZ fs fn K) {d0 : DefA} (h0 : fn[0]? = some d0) : ∃ fd : Nat → FuncData, DefsA fn K fd := by
  obtain ⟨u0, _⟩ := c.def_ 0 h0
  have h : ∀ i : Nat, ∃ u : FuncData, ∀ d : DefA, fn[i]? = some d → FunD K d.name d.qual d.params d.body d.scope (d.dvs K) (d.kws K) (d.at_ K) u := fun i => by
    by_cases hi : ∃ d, fn[i]? = some d
    · obtain ⟨d, hd⟩ := hi
      obtain ⟨u, hu⟩ := c.def_ i hd
      refine ⟨u, fun d' z => ?_⟩
      rw [hd] at z
      rw [← Option.some.inj z]
      exact hu
    · exact ⟨u0, fun d z => absurd ⟨d, z⟩ hi⟩
  obtain ⟨fd, hf⟩ := Classical.axiomOfChoice h
  exact ⟨fd, fun i d e => hf i d e⟩
end
/-- the written part without the tables of these defs -/
def frZ (n : Nat) (ls : List (Fg → Addr)) (g : Addr → Option Obj) : Fg := frG g ((asD g n ++ [cStatics]).filter fun a => !((ls.map fun f => tabAt (frG g (asD g n)) (f (frG g (asD g n)))).contains a))
def obsZG (n : Nat) (fs : Fz) (fn : List DefA) (ls : List (Fg → Addr)) (g : Addr → Option Obj) : AlL := (obsZ fs fn (frZ n ls g), ls.map fun f => isTab (g (tabAt (frZ n ls g) (f (frZ n ls g)))))
def hookZ (n : Nat) (fs : Fz) (fn : List DefA) (ls : List (Fg → Addr)) : PySem.W.Hook where
  α := AlL
  obs := fun s => obsZG n fs fn ls s.heap.get?
  val := fun _ => (valZ fn, ls.map fun _ => true)
  says := fun _ h => ∃ K : Fg, K.In h ∧ SaysZ fs fn K ∧ ∀ f ∈ ls, isTab (h.get? (tabAt K (f K))) = true
  of := fun _ s e => by
    have e2 : (ls.map fun f => isTab (s.heap.get? (tabAt (frZ n ls s.heap.get?) (f (frZ n ls s.heap.get?))))) = ls.map fun _ => true := congrArg (fun z : AlL => z.2) e
    exact ⟨_, frG_in, congrArg (fun z : AlL => z.1) e, fun f hf => List.map_inj_left.mp e2 f hf⟩
  keeps := fun _ _ _ ⟨K, hK, c, t⟩ k => ⟨K, PySem.W.Frag.In.keeps hK k, c, fun f hf => by
    rw [k _ _ (isTab_ok (t f hf))]
    rfl⟩
theorem obsZG_eq {n : Nat} {fs : Fz} {fn : List DefA} {ls : List (Fg → Addr)} {g : Addr → Option Obj} {s : Shared} (h : ∀ a, g a = s.heap.get? a) : obsZG n fs fn ls g = (hookZ n fs fn ls).obs s := by
  rw [show g = s.heap.get? from funext h]
  rfl
/-- what the walk asks of the written part and of the module's names -/
structure TxtZ (fs : Fz) (fn : List DefA) (K : Fg) (mg : Str → Option Value) : Prop where
  c : SaysZ fs fn K
  gl : ∀ x, (Fa.glo x).ok K = true → mg x = some (.ref (ga K x))
  fr : ∀ x, (Fa.free x).ok K = true → mg x = none
  nt : ∀ x i, (Fa.int x i).ok K = true → ∃ t, mg x = some (.int i t)
  tx : ∀ x z, (Fa.str x z).ok K = true → ∃ t, mg x = some (.str z t)
theorem txtZ {fs : Fz} {fn : List DefA} {K : Fg} {h : Heap} {mg : Str → Option Value} (X : K.In h) (G : h.Ns mainGlobals mg) (c : SaysZ fs fn K) : TxtZ fs fn K mg :=
  ⟨c, fun x hx => He.glo_ok X G hx, fun x hx => He.free_ok X G hx, fun x i hx => He.int_ok X G hx, fun x z hx => He.str_ok X G hx⟩
theorem TxtZ.fact {fs : Fz} {fn : List DefA} {K : Fg} {mg : Str → Option Value} (T : TxtZ fs fn K mg) (i : Nat) {f : Fg → Bool} (h : fs[i]? = some f := by rfl) : f K = true := T.c.fact i h
/-- the code objects and tables of the defs that make lambdas -/
def csZ (ls : List (Fg → Addr)) (K : Fg) : List (Addr × Addr) := ls.map fun f => (Tw.codeAt K (f K), tabAt K (f K))
end Tw
/-! Tw: a lambda as a value (tracked), and sorted(xs, key=lambda x: x.field). -/
namespace Tw
open PySem PySem.Spec PyProof.Rows L2 He LamX
/-- the function object of a lambda stands at f -/
def FunO (f : Addr) (q : Str) (ps : Arguments) (e : Expr) (sc : Scope) (cl : List (Str × Addr)) (c' : Addr) : HO := .ext fun h => ∃ pm ctv : Value, h.get? f = some (PySem.W.kla_obj "<lambda>" q ps e sc cl pm c' ctv)
theorem funO_ne {f c' : Addr} {q : Str} {ps : Arguments} {e : Expr} {sc : Scope} {cl : List (Str × Addr)} (xs : Array Value) : FunO f q ps e sc cl c' ≠ .tbl xs := fun z => by
  unfold FunO at z
  cases z
section
variable {X : Cx} {pins : List (Addr × Obj)} {σ : L2.St} {H : Hp} {s : Shared}
theorem funO_laid {h' : Heap} {tk : Nat} {q : Str} {ps : Arguments} {e : Expr} {sc : Scope} {cl : List (Str × Addr)} {pm ctv : Value} {c' : Addr} (I : Inv X pins σ H s) (k : ∀ b o, s.heap.get? b = some o → h'.get? b = some o) (hp : s.heap.objs.size ≤ h'.objs.size) :
    Inv X pins σ (upd H h'.objs.size (FunO h'.objs.size q ps e sc cl c')) { s with heap := h'.push (PySem.W.kla_obj "<lambda>" q ps e sc cl pm c' ctv), toks := tk } := by
  have hz : (h'.push (PySem.W.kla_obj "<lambda>" q ps e sc cl pm c' ctv)).get? h'.objs.size = some (PySem.W.kla_obj "<lambda>" q ps e sc cl pm c' ctv) := Heap.get?_push_size _ rfl
  refine I.laid (fun b o z => Heap.get?_push_of_some _ (k b o z)) hp ?_
  exact ⟨⟨pm, ctv, hz⟩, ⟨_, hz⟩, fun h1 h2 ⟨pm, ctv, z⟩ st => ⟨pm, ctv, st _ z⟩⟩
/-- a lambda is made: its function object tracked -/
theorem lam_laid {T : List (Addr × Str)} {c P : Addr} {ps : Arguments} {e : Expr} {sc : Scope} {pos : Pos} {E : Value → Shared → Prop} {Q : Value → Shared → Prop} (I : Inv X pins σ H s) (TB : TabB X.base X.mg c P) (hcode : X.env.code = .ref c)
    (hm : (P, X.env.qual ++ "<lambda>") ∈ T) (hu : ∀ p ∈ T, p.1 = P → p.2 = X.env.qual ++ "<lambda>") (hT : Tabs T H) (hdef : defaultsOf ps X.env = ([], [])) (hfree : ∀ y ∈ sc.names, y.2 = .free → ∃ c, X.env.cells.lookup y.1 = some c)
    (h : ∀ (f c' : Addr) (H1 : Hp) (s' : Shared), Inv X pins σ H1 s' → ExtN H H1 → Tabs T H1 → H f = none → H1 f = some (FunO f (X.env.qual ++ "<lambda>") ps e sc (cloFrom X.env.cells sc.names []) c') → H1 c' = some (CodeO c' (X.env.qual ++ "<lambda>")) → Q (.ref f) s') :
    wpAny (model X.prog X.w) X.A (eval (.Lambda ps e sc pos) X.env) Q E s := by
  obtain ⟨tb, hP, ht, ha⟩ := hT _ hm
  have bP : s.heap.BuiltinsAt X.mg P := TB.bm.keeps I.bk
  have hP' := I.hok P _ hP
  have gl : s.heap.Ns mainGlobals X.mg := I.mod.glob.keeps I.bk
  have fin : ∀ {f c' : Addr} {H1 : Hp} {o : HO}, H1 f = none → ExtN H H1 → Tabs T H1 → ExtN H (upd H1 f o) ∧ Tabs T (upd H1 f o) := fun {f c' H1 o} n e t =>
    ⟨e.trans (ExtN.of (same_new n)), t.ext (same_new n)⟩
  refine PySem.W.kla_eval hdef ?_
  cases hc : codeAmong pos tb.toList with
  | none =>
    refine PySem.W.kla_makeFunction (c := c) (P := P) (ps := tb) (closure_ok hfree) I.ok.glob
      gl hcode (TB.code.keeps I.bk) hP' ht hc TB.gP bP fun c' ctv h' tk hx hge hlt hrec htb => ?_
    obtain ⟨c2, oc, vs, t, e2, hoc, hd, hv⟩ := hrec
    cases e2
    have nC : H c' = none := I.hok.fresh hge
    have nP : P ≠ c' := ne_of_none hP nC
    have I1 := inv_table (t' := tk) (more := #[rawInt pos.line, rawInt pos.col, .ref c']) I hP hx htb hge
      ⟨oc, vs, t, hoc, hd, hv⟩
    generalize hH1 : upd (upd H P (.tbl (tb ++ #[rawInt pos.line, rawInt pos.col, .ref c']))) c' (CodeO c' (X.env.qual ++ "<lambda>")) = H1 at I1
    have hE : ExtN H H1 := fun b o z n => by
      have n1 : b ≠ P := fun y => n tb (Option.some.inj (z.symm.trans (by rw [y]; exact hP)))
      rw [← hH1, upd_ne (ne_of_none z nC), upd_ne n1]
      exact z
    have atC : H1 c' = some (CodeO c' (X.env.qual ++ "<lambda>")) := by rw [← hH1, upd_same]
    have atP : H1 P = some (.tbl (tb ++ #[rawInt pos.line, rawInt pos.col, .ref c'])) := by rw [← hH1, upd_ne nP, upd_same]
    have eL : (tb ++ #[rawInt pos.line, rawInt pos.col, .ref c']).toList = tb.toList ++ [rawInt pos.line, rawInt pos.col, .ref c'] := by simp
    have T1 : Tabs T H1 := fun p hp => by
      by_cases hb : p.1 = P
      · rw [hu p hp hb, hb]
        refine ⟨_, atP, by rw [eL]; exact PySem.TriplesOk_snoc _ _ _ _ ht, fun p' cv z => ?_⟩
        rw [eL] at z
        rcases among_app _ ht z with y | y
        · obtain ⟨c0, z1, z2⟩ := ha p' cv y
          exact ⟨c0, z1, hE _ _ z2 codeO_ne⟩
        · exact ⟨c', y, atC⟩
      · obtain ⟨tb', a1, a2, a3⟩ := hT p hp
        refine ⟨tb', ?_, a2, fun p' cv z => ?_⟩
        · rw [← hH1, upd_ne (ne_of_none a1 nC), upd_ne hb]
          exact a1
        · obtain ⟨c0, z1, z2⟩ := a3 p' cv z
          exact ⟨c0, z1, hE _ _ z2 codeO_ne⟩
    have nf : H1 h'.objs.size = none := I1.hok.fresh (Nat.le_refl _)
    obtain ⟨f1, f2⟩ := fin (c' := c') (o := FunO h'.objs.size (X.env.qual ++ "<lambda>") ps e sc (cloFrom X.env.cells sc.names []) c') nf hE T1
    refine h h'.objs.size c' _ _ (funO_laid (s := { s with heap := h', toks := tk }) (tk := tk) I1 (fun _ _ z => z) (Nat.le_refl _)) f1 f2 (I.hok.fresh (Nat.le_trans hge (Nat.le_of_lt hlt))) upd_same ?_
    rw [upd_ne (Nat.ne_of_lt hlt)]
    exact atC
  | some cv =>
    obtain ⟨c', e', hco⟩ := ha pos cv hc
    subst e'
    refine PySem.W.kla_makeFunctionHit (c := c) (P := P) (ps := tb) (closure_ok hfree) I.ok.glob
      gl hcode (TB.code.keeps I.bk) hP' ht hc bP fun ctv h' tk hx hsz => ?_
    have nf : H h'.objs.size = none := I.hok.fresh hsz
    obtain ⟨f1, f2⟩ := fin (c' := c') (o := FunO h'.objs.size (X.env.qual ++ "<lambda>") ps e sc (cloFrom X.env.cells sc.names []) c') nf (ExtN.refl H) hT
    refine h h'.objs.size c' _ _ (funO_laid I hx hsz) f1 f2 nf upd_same ?_
    rw [upd_ne (ne_of_none hco nf)]
    exact hco
/-- what is said of a lambda made -/
def tLamV (T : List (Addr × Str)) (q : Str) (ps : Arguments) (e : Expr) (sc : Scope) (cl : List (Str × Addr)) : TE := fun _ H Q => Tabs T H ∧ ∀ (f c' : Addr) (H1 : Hp), ExtN H H1 → Tabs T H1 → H f = none → H1 f = some (FunO f q ps e sc cl c') → H1 c' = some (CodeO c' q) → Q (.ref f) H1
theorem pe_lambda {T : List (Addr × Str)} {c P : Addr} {ps : Arguments} {e : Expr} {sc : Scope} {pos : Pos} (TB : TabB X.base X.mg c P) (hcode : X.env.code = .ref c)
    (hm : (P, X.env.qual ++ "<lambda>") ∈ T) (hu : ∀ p ∈ T, p.1 = P → p.2 = X.env.qual ++ "<lambda>") (hdef : defaultsOf ps X.env = ([], [])) (hfree : ∀ y ∈ sc.names, y.2 = .free → X.env.scope.names.lookup y.1 = some .cell ∨ X.env.scope.names.lookup y.1 = some .free) :
    PE X (.Lambda ps e sc pos) (tLamV T (X.env.qual ++ "<lambda>") ps e sc (cloFrom X.env.cells sc.names [])) := by
  refine ⟨fun pins s σ H Q I h => ?_⟩
  obtain ⟨hT, h⟩ := h
  refine lam_laid I TB hcode hm hu hT hdef (fun y hy z => (hfree y hy z).elim (fun k => I.ok.has _ (.inl k)) fun k => I.ok.has _ (.inr k)) fun f c' H1 s' I1 e1 t1 n1 f1 c1 => ?_
  exact ⟨.ref f, H1, I1, rfl, h f c' H1 e1 t1 n1 f1 c1⟩
/-- a lambda's parameter and its body: x.fld -/
structure KeyL (sc : Scope) (x : Str) : Prop where
  kind : sc.kind = .function
  co : sc.isCoroutine = false
  gen : sc.isGenerator = false
  own : ∀ y ∈ sc.names, y.2 ≠ .cell
  loc : sc.names.lookup x = some .local
  clo : cloFrom [] sc.names [] = []
theorem key_call {f c' a C dx : Addr} {q x fld : Str} {ps : Arguments} {sc : Scope} {p1 p2 : Pos} {fs : List (Str × V)} {k : Int} {A : Around} (I : Inv X pins σ H s) (hf : H f = some (FunO f q ps (.Attribute (.Name x p1) fld p2) sc [] c')) (hc : H c' = some (CodeO c' q)) (L : KeyL sc x) (hd : A.depth < recursionLimit)
    (hbind : ∀ pm cv ctv u, bindArgs (PySem.W.kla_fn "<lambda>" q ps (.Attribute (.Name x p1) fld p2) sc [] pm cv ctv) ⟨[u], []⟩ = pure [(x, u)]) (hb : ∀ env : Env, attributeBase (.Name x p1) fld env (eval (.Name x p1) env) = eval (.Name x p1) env) (hx : (x == ("__debug__" : Str)) = false)
    (ha : H a = some (.ins C dx fs)) (cl : Cls X.K C) (na : NoAttr X.K C fld) (lk : fs.lookup fld = some (.int k)) (h : Heap) (tk : Nat) (up : ∀ b o, s.heap.get? b = some o → h.get? b = some o) :
    wpAny (model X.prog X.w) A (call (.ref f) [.ref a]) (PySem.W.KeyPure (.int k) { s with heap := h, toks := tk }) (fun _ _ => False) { s with heap := h, toks := tk } := by
  obtain ⟨⟨pm, ctv, hfo⟩, _, _⟩ := I.hok f _ hf
  obtain ⟨⟨oc, vs, t, hoc, hdc, hvc⟩, _, _⟩ := I.hok c' _ hc
  obtain ⟨mA, O, r, _, _, _⟩ := ins_get I.hok ha
  obtain ⟨u, hu, ru⟩ := RelO.some_of (v := .int k) (o := mA fld) (by rw [← lk]; exact r fld)
  obtain ⟨tu, rfl⟩ := ru
  refine wpAny_call (codeAny_mono (R := fun r s' => ∃ v, r = .ok (.ret v) ∧ PySem.W.KeyPure (.int k) { s with heap := h, toks := tk } v s') ?_ fun r s' hq => ?_)
  · refine PySem.W.kla_callFunE hd (up _ _ hfo) rfl L.co L.gen rfl ⟨c', oc, vs, t, rfl, up _ _ hoc, hdc, hvc⟩ ?_
    rw [hbind]
    refine wpAny_pure (wpAny_newFunctionEnv L.own (fun y hy => ?_) (fun h₁ hns hsb => ⟨?_, ?_⟩) L.kind)
    · cases List.mem_singleton.mp hy
      exact L.loc
    · exact ((I.nolimit.keeps up)).fresh _ hsb
    · have kp : ∀ b o, h.get? b = some o → h₁.get? b = some o := fun b o e => (hsb.2 b (Nat.ne_of_lt (Heap.lt_size e))).trans (Heap.get?_push_of_some _ e)
      have kp2 : ∀ b o, s.heap.get? b = some o → h₁.get? b = some o := fun b o e => kp b o (up b o e)
      refine PySem.W.kla_codeExpr (attr_of (hb _) (wpAny_Name (wpAny_loadName_local L.kind L.loc hns (v := .ref a) ?_ ?_) hx))
      · simp
      · refine get_map (K := X.K) (mA := mA) ?_ ⟨kp2 _ _ O.obj, O.ns.at fun o q => kp2 _ _ q, O.ne⟩ (cl.get fld) cl.hd na hu (handed_of (v := .int k) ⟨tu, rfl⟩) ?_
        · exact PySem.W.Frag.In.keeps I.kIn kp2
        · exact ⟨_, rfl, _, _, rfl, kp, .int k tu⟩
  · obtain ⟨v, rfl, hv⟩ := hq
    exact hv
/-- y is an instance whose field is the number k -/
def KeyedAt (K : Fg) (H : Hp) (fld : Str) (y : V) (k : Int) : Prop := ∃ (a C dx : Addr) (fs : List (Str × V)), y = .ref a ∧ H a = some (.ins C dx fs) ∧ Cls K C ∧ NoAttr K C fld ∧ fs.lookup fld = some (.int k)
/-- sorted(xs, key=lambda x: x.fld) -/
def rSortedFld (K : Fg) (x fld q : Str) (ps : Arguments) (sc : Scope) (p1 p2 : Pos) : List V → List V → Hp → VK → Prop := fun vs zs H Q => ∃ (l f c' : Addr) (ys : List V) (ks : List Int), vs = [.ref l] ∧ zs = [.ref f] ∧ SqL K H l ys ∧
  H f = some (FunO f q ps (.Attribute (.Name x p1) fld p2) sc [] c') ∧ H c' = some (CodeO c' q) ∧ Paired (KeyedAt K H fld) ys ks ∧
  ∀ p, H p = none → Q (.ref p) (upd H p (.lst (((ys.zip ks).mergeSort fun a b => decide (a.2 ≤ b.2)).map (·.1))))
theorem zip_each {K : Fg} {H : Hp} {fld : Str} : ∀ {ys : List V} {ks : List Int} {its : List Value}, Vals ys its → Paired (KeyedAt K H fld) ys ks → PySem.W.EachIs (fun (v : Value) (b : V × Int) => RelV b.1 v ∧ KeyedAt K H fld b.1 b.2) its (ys.zip ks)
  | _, _, _, .nil, .nil => .nil
  | _, _, _, .cons r rs, .cons k ks => .cons ⟨r, k⟩ (zip_each rs ks)
theorem vals_each {K : Fg} {H : Hp} {fld : Str} : ∀ {out : List Value} {bs : List (V × Int)}, PySem.W.EachIs (fun (v : Value) (b : V × Int) => RelV b.1 v ∧ KeyedAt K H fld b.1 b.2) out bs → Vals (bs.map (·.1)) out
  | _, _, .nil => .nil
  | _, _, .cons h t => .cons h.1 (vals_each t)
theorem cr_sortedFld {q x fld : Str} {ps : Arguments} {sc : Scope} {p1 p2 : Pos} (hr : Room 1 X.A) (L : KeyL sc x)
    (hbind : ∀ pm cv ctv u, bindArgs (PySem.W.kla_fn "<lambda>" q ps (.Attribute (.Name x p1) fld p2) sc [] pm cv ctv) ⟨[u], []⟩ = pure [(x, u)]) (hb : ∀ env : Env, attributeBase (.Name x p1) fld env (eval (.Name x p1) env) = eval (.Name x p1) env) (hx : (x == ("__debug__" : Str)) = false) :
    CallRK X (.builtin "sorted") [Str.ofString "key"] (rSortedFld X.K x fld q ps sc p1 p2) := by
  intro pins s σ H vs zs us ws Q I r rz h
  obtain ⟨l, f, c', ys, ks, rfl, rfl, hs, hf, hc, pr, qk⟩ := h
  obtain rfl := Vals.ref1 r
  obtain ⟨w1, rfl, e1⟩ := vals1 rz
  obtain rfl : w1 = Value.ref f := e1
  obtain ⟨its, rv, hl, hz⟩ := I.list hs
  have ln : ys.length = ks.length := Paired.length pr
  have lz : (ys.zip ks).length = ys.length := by rw [List.length_zip, ← ln, Nat.min_self]
  refine PySem.W.sorted_key_data (β := V × Int) (b := false) (R := fun v b => RelV b.1 v ∧ KeyedAt X.K H fld b.1 b.2) (vs := its) (bs := ys.zip ks) (fun b => .int b.2) hl.isList (zip_each rv pr)
    (PySem.W.AllAlike.of fun _ _ => by simp [PySem.W.alike]) (PySem.W.Sortable.others fun _ => ⟨(fun z => nomatch z), fun _ z => nomatch z⟩) (by rw [lz]; exact hz) (fun b _ => ?_) (PyProof.Rows.ksk_s1 _ _) (fun _ => PyProof.Rows.ksk_l1 _ _) (fun _ => PyProof.Rows.ksk_t1 _ _) (fun v b hR _ h tk up => ?_) fun out c h' tk up hn hD hlen he => ?_
  · have := hr.un
    show X.A.units + 2 + 0 < cLine
    omega
  · obtain ⟨hv, a, C, dx, fs, e, ha, cl, na, lk⟩ := hR
    rw [e] at hv
    obtain rfl : v = Value.ref a := hv
    refine key_call I hf hc L ?_ hbind hb hx ha cl na lk h tk up
    have := hr.dp
    show X.A.depth < recursionLimit
    omega
  · rw [PySem.W.dataLe_int (fun b : V × Int => b.2)] at he
    have hl2 : (((ys.zip ks).mergeSort fun a b => decide (a.2 ≤ b.2)).map (·.1)).length ≤ sizeLine := by
      rw [List.length_map, List.length_mergeSort, lz]
      exact hz
    exact ⟨.ref _, upd H (s.heap.objs.size + 1) (.lst (((ys.zip ks).mergeSort fun a b => decide (a.2 ≤ b.2)).map (·.1))), I.laid up (Nat.le_succ _) ⟨hl2, out, c, vals_each he, hD⟩, rfl, qk _ (I.hok.fresh (Nat.le_succ _))⟩
end
end Tw
/-! Tw: classmethods: their facts as a Bool, C.m(), cls(e), cls(*e). -/
namespace Tw
open PySem PySem.Spec PyProof.Rows L2 He LamX
/-- the def behind the classmethod C.m -/
abbrev cmAt (K : Fg) (x m : Str) : Addr := He5.wf K (ga K x) "classmethod" m
def clsmB (K : Fg) (x m : Str) : Bool := He5.wrapB K (ga K x) "classmethod" "classmethod.__get__" m && PySem.W.fnIn K (cmAt K x m)
theorem clsmB_ok {K : Fg} {x m : Str} (h : clsmB K x m = true) : ClX.CMet K (ga K x) (.type "type") m (ma K (ga K x) m) (cmAt K x m) := by
  obtain ⟨h1, h2⟩ := ba h
  exact He5.cmet_of h1 h2
/-- a def behind a classmethod, as the head's data -/
def dCl (cls : Stmt) (j : Nat) (c m : Str) : DefA := ⟨fun K => cmAt K c m, m, c ++ "." ++ m, defArgs (inClass cls j), defBody (inClass cls j), defScope (inClass cls j), [], []⟩
theorem hfree_by {sc sc' : Scope} (h : (sc.names.all fun y => !decide (y.2 = NameKind.free) || (decide (sc'.names.lookup y.1 = some .cell) || decide (sc'.names.lookup y.1 = some .free))) = true) :
    ∀ y ∈ sc.names, y.2 = .free → sc'.names.lookup y.1 = some .cell ∨ sc'.names.lookup y.1 = some .free := fun y hy e => by
  have z := List.all_eq_true.mp h y hy
  rw [decide_eq_true e, Bool.not_true, Bool.false_or, Bool.or_eq_true] at z
  exact z.imp of_decide_eq_true of_decide_eq_true
section
variable {X : Cx} {CX : CXT} {k i : Nat} {C p g f : Addr} {mc : Value} {sp : Sp} {E : XK} {x m : Str} {o e : Expr} {es : List Expr} {pos apos np : Pos} {ta te : TE} {t : TA}
/-- o.m(), o the class at C -/
theorem pe_cmeth0 {pl : Sem Bool} (he : PE X o ta) (r : ClX.CRead X.K C mc) (c : ClX.CMet X.K C mc m p g) (F : FnR X.prog X.w X.K X.mg X.base CX k g sp) (hr : Room k X.A) (hx : Passes CX X E)
    (ht : eval (.Call (.Attribute o m apos) [] [] pos) X.env = (do
      let ov ← eval o X.env
      standAt apos.atName
      let (f, first) ← holding [ov] (getMethod ov m pl)
      callWith pos f first (backTo pos (starEach [] X.env)) (backToKw pos (keywordEach [] X.env))) := by rfl) :
    PE X (.Call (.Attribute o m apos) [] [] pos) (fun σ H Q => ta σ H fun x H1 => x = .ref C ∧ sp [.ref C] H1 Q E) := by
  refine ⟨fun pins s σ H Q I h => PySem.W.methodCall_KW (pl := pl) (thn (he.run pins s σ H _ I h) fun u s1 ⟨x, H1, I1, rx, ex, q⟩ => ?_) ht⟩
  subst ex
  obtain rfl : u = Value.ref C := rx
  refine ClX.getmethcm_ok I1 r c fun s2 I2 => ?_
  exact PySem.W.callWith_M0 (first := []) ⟨ClX.pin_at I2, I2.kIn⟩ c.fi (ClX.run_cm (us := []) (vs := []) F hr hx I2 .nil q)
/-- x(e, ..), x a local name that holds the class at C -/
theorem pe_makeV (M : Mk X.K C f) (F : FnR X.prog X.w X.K X.mg X.base CX k f sp) (hr : Room (k + 1) X.A) (hx : Passes CX X E) (hN : X.N[i]? = some x) (hv : Vis X.env.scope x) (ha : PA X (e :: es) t)
    (hd : (x == ("__debug__" : Str)) = false := by decide) (hcd : (x == ("__classdict__" : Str)) = false := by decide)
    (he : starEach (e :: es) X.env = (false, eval e X.env) :: starEach es X.env := by rfl) (hpl : (backTo pos (starEach es X.env)).any (·.1) = false := by rfl) :
    PE X (.Call (.Name x np) (e :: es) [] pos) (fun σ H Q => σ[i]? = some (some (.ref C)) ∧ StX.tMakeR C sp E t σ H Q) := by
  refine ⟨fun pins s σ H Q I h => wpAny_Call_Name_kw (thn ((pe_var (pos := np) (i := i) hN hv hd hcd).run pins s σ H (fun v H1 => v = .ref C ∧ H1 = H) I ⟨.ref C, h.1, rfl, rfl⟩) fun u s1 ⟨v, H1, I1, r1, ev, eH⟩ => ?_)⟩
  subst ev eH
  cases r1
  exact PySem.W.callWith_K (h₀ := X.base) I1.ok.mod.kin M.kp (thn (ha.run pos pins s1 σ _ _ I1 h.2) fun us s2 ⟨vs, H2, I2, r, q⟩ => ⟨I2.kIn, StX.run_makeR M F hr hx I2 r q⟩) he hpl
/-- x(*y), x a local name that holds the class at C -/
theorem pe_makeVS (M : Mk X.K C f) (F : FnR X.prog X.w X.K X.mg X.base CX k f sp) (hr : Room (k + 1) X.A) (hx : Passes CX X E) (hN : X.N[i]? = some x) (hv : Vis X.env.scope x) (he : PE X e te)
    (hd : (x == ("__debug__" : Str)) = false := by decide) (hcd : (x == ("__classdict__" : Str)) = false := by decide)
    (hst : starEach [.Starred e apos] X.env = [(true, eval e X.env)] := by rfl) :
    PE X (.Call (.Name x np) [.Starred e apos] [] pos) (fun σ H Q => σ[i]? = some (some (.ref C)) ∧ te σ H fun y H1 => ∃ a xs, y = V.ref a ∧ (SqT X.K H1 a xs ∨ SqL X.K H1 a xs) ∧ ∀ z dx, H1 z = none → H1 dx = none → dx ≠ z →
      sp (V.ref z :: xs) (upd (upd H1 dx (.own z)) z (.ins C dx [])) (fun v H2 => v = .non ∧ Q (.ref z) H2) E) := by
  refine ⟨fun pins s σ H Q I h => wpAny_Call_Name_kw (thn ((pe_var (pos := np) (i := i) hN hv hd hcd).run pins s σ H (fun v H1 => v = .ref C ∧ H1 = H) I ⟨.ref C, h.1, rfl, rfl⟩) fun u s1 ⟨v, H1, I1, r1, ev, eH⟩ => ?_)⟩
  subst ev eH
  cases r1
  refine PySem.W.callWith_S (h₀ := X.base) I1.ok.mod.kin M.kp (thn (he.run pins s1 σ _ _ I1 h.2) fun v s2 ⟨y, H2, I2, ry, a, xs, ey, hxs, q⟩ => ?_) hst
  subst ey
  obtain rfl : v = Value.ref a := ry
  exact StX.star_any I2 hxs fun us s3 I3 rv => ⟨I3.kIn, StX.run_makeR M F hr hx I3 rv q⟩
/-- x(*y), x a global class -/
theorem pe_makeGS (M : Mk X.K C f) (F : FnR X.prog X.w X.K X.mg X.base CX k f sp) (hr : Room (k + 1) X.A) (hx : Passes CX X E) (hg : Gl X x) (hm : X.mg x = some (.ref C)) (he : PE X e te) (hd : (x == ("__debug__" : Str)) = false := by decide)
    (hst : starEach [.Starred e apos] X.env = [(true, eval e X.env)] := by rfl) :
    PE X (.Call (.Name x np) [.Starred e apos] [] pos) (fun σ H Q => te σ H fun y H1 => ∃ a xs, y = V.ref a ∧ (SqT X.K H1 a xs ∨ SqL X.K H1 a xs) ∧ ∀ z dx, H1 z = none → H1 dx = none → dx ≠ z →
      sp (V.ref z :: xs) (upd (upd H1 dx (.own z)) z (.ins C dx [])) (fun v H2 => v = .non ∧ Q (.ref z) H2) E) := by
  refine ⟨fun pins s σ H Q I h => wpAny_Call_Name_kw (ld_glob I hg hm ?_ hd)⟩
  refine PySem.W.callWith_S (h₀ := X.base) I.ok.mod.kin M.kp (thn (he.run pins s σ _ _ I h) fun v s2 ⟨y, H2, I2, ry, a, xs, ey, hxs, q⟩ => ?_) hst
  subst ey
  obtain rfl : v = Value.ref a := ry
  exact StX.star_any I2 hxs fun us s3 I3 rv => ⟨I3.kIn, StX.run_makeR M F hr hx I3 rv q⟩
end
end Tw
/-! Tw: what stands while lambdas are made beside a pen; slices as take and drop. -/
namespace Tw
open PySem PySem.Spec PyProof.Rows L2 He LamX
/-- all but the tables and what stands at p stay -/
def ButN (p : Addr) (H H' : Hp) : Prop := ∀ b o, H b = some o → b ≠ p → (∀ ps, o ≠ .tbl ps) → H' b = some o
theorem ButN.refl (p : Addr) (H : Hp) : ButN p H H := fun _ _ e _ _ => e
theorem ButN.of {p : Addr} {H H' : Hp} (e : ExtN H H') : ButN p H H' := fun b o h _ n => e b o h n
theorem ButN.but {p : Addr} {H H' : Hp} (e : But p H H') : ButN p H H' := fun b o h n _ => e b o h n
theorem ButN.trans {p : Addr} {H H1 H2 : Hp} (a : ButN p H H1) (b : ButN p H1 H2) : ButN p H H2 := fun c o e h n => b c o (a c o e h n) h n
theorem tabs_but {T : List (Addr × Str)} {p : Addr} {H H' : Hp} (h : Tabs T H) (e : But p H H') (hp : ∀ ps, H p ≠ some (.tbl ps)) (hc : ∀ c q, H p ≠ some (CodeO c q)) : Tabs T H' := fun q hq => by
  obtain ⟨ps, h1, h2, h3⟩ := h q hq
  have n1 : q.1 ≠ p := fun z => hp ps (z ▸ h1)
  refine ⟨ps, e _ _ h1 n1, h2, fun pos cv hcv => ?_⟩
  obtain ⟨c, e1, e2⟩ := h3 pos cv hcv
  have n2 : c ≠ p := fun z => hc c q.2 (by rw [z] at e2 ⊢; exact e2)
  exact ⟨c, e1, e _ _ e2 n2⟩
theorem penN {H H' : Hp} {p l : Addr} {c : Nat} (P : PenL H p l c) (e : ExtN H H') : PenL H' p l c := by
  obtain ⟨ns, i, g, e1, e2, r⟩ := P
  exact ⟨ns, i, g, e _ _ e1 (fun _ z => nomatch z), e _ _ e2 (fun _ z => nomatch z), r⟩
theorem tabs_pen {T : List (Addr × Str)} {p l : Addr} {c : Nat} {H H' : Hp} (h : Tabs T H) (e : But p H H') (P : PenL H p l c) : Tabs T H' := by
  obtain ⟨ns, i, g, e1, _⟩ := P
  exact tabs_but h e (fun ps z => by rw [e1] at z; cases z) (fun c q z => by rw [e1] at z; exact nomatch z)
/-- the tables T, the pen at p; all else as it was at H0 -/
structure Lx (T : List (Addr × Str)) (H0 H : Hp) (p l : Addr) (c : Nat) : Prop where
  t : Tabs T H
  P : PenL H p l c
  b : ButN p H0 H
theorem Lx.same {T : List (Addr × Str)} {H0 H H' : Hp} {p l : Addr} {c : Nat} (S : Lx T H0 H p l c) (e : Same H H') : Lx T H0 H' p l c := ⟨S.t.ext e, S.P.same e, S.b.trans (ButN.but (But.of e))⟩
theorem Lx.ext {T : List (Addr × Str)} {H0 H H' : Hp} {p l : Addr} {c : Nat} (S : Lx T H0 H p l c) (e : ExtN H H') (t : Tabs T H') : Lx T H0 H' p l c := ⟨t, penN S.P e, S.b.trans (ButN.of e)⟩
theorem Lx.pen {T : List (Addr × Str)} {H0 H H' : Hp} {p l : Addr} {c c' : Nat} (S : Lx T H0 H p l c) (e : But p H H') (P : PenL H' p l c') : Lx T H0 H' p l c' := ⟨tabs_pen S.t e S.P, P, S.b.trans (ButN.but e)⟩
theorem Lx.mono {T : List (Addr × Str)} {H0 H : Hp} {p l : Addr} {c c' : Nat} (S : Lx T H0 H p l c) (h : c ≤ c') : Lx T H0 H p l c' := ⟨S.t, S.P.mono h, S.b⟩
theorem Lx.from {T : List (Addr × Str)} {H0 H1 H : Hp} {p l : Addr} {c : Nat} (b : ButN p H0 H1) (S : Lx T H1 H p l c) : Lx T H0 H p l c := ⟨S.t, S.P, b.trans S.b⟩
/-- a heap with one object changed that is no table and not the pen -/
theorem Lx.upd {T : List (Addr × Str)} {H0 H : Hp} {p l q : Addr} {c : Nat} {o : HO} {xs : List V} (S : Lx T H0 H p l c) (h0 : H0 q = none) (hq : H q = some (.lst xs)) (n1 : q ≠ p) (n2 : q ≠ l) : Lx T H0 (L2.upd H q o) p l c := by
  refine ⟨tabs_but (p := q) S.t But.upd (fun ps z => by rw [hq] at z; cases z) (fun c q' z => by rw [hq] at z; exact nomatch z), S.P.upd n1 n2, fun b u e hb ht => ?_⟩
  rw [upd_ne (ne_of_none e h0)]
  exact S.b b u e hb ht
theorem cutTake (xs : List V) (n : Nat) : cutV xs none (some ((n : Nat) : Int)) = xs.take n := by
  unfold cutV
  rw [HT.sIx_none, HT.sIx_nat, List.drop_zero, Nat.sub_zero]
  rcases Nat.le_total n xs.length with h | h
  · rw [Nat.min_eq_left h]
  · rw [Nat.min_eq_right h, List.take_of_length_le h, List.take_of_length_le (Nat.le_refl _)]
theorem cutDrop (xs : List V) (n : Nat) : cutV xs (some ((n : Nat) : Int)) none = xs.drop n := by
  unfold cutV
  rw [HT.sIx_none, HT.sIx_nat, List.take_of_length_le (by rw [List.length_drop]; exact Nat.le_refl _)]
  rcases Nat.le_total n xs.length with h | h
  · rw [Nat.min_eq_left h]
  · rw [Nat.min_eq_right h, List.drop_of_length_le h, List.drop_of_length_le (Nat.le_refl _)]
end Tw
/-! Tw: set comprehensions with one clause, whatever the set holds; those of ints. -/
namespace Tw
open PySem PySem.Spec PyProof.Rows L2 He
/-- an empty set is laid as o0 tells -/
def NewSet (P : Program) (w : World) (o0 : Addr → HO) : Prop := ∀ (H : Hp) (h : Heap), ObjOk P w (upd H h.objs.size (o0 h.objs.size)) (h.push { cls := .type "set", dict := none, data := .set #[] 0 (.fresh 0 0 (!w.params.followText "set-order")) }) h.objs.size (o0 h.objs.size)
/-- a member is put in as ad tells -/
def AddSet (P : Program) (w : World) (ad : V → Addr → Hp → (Hp → Prop) → Prop) : Prop := ∀ (Z : Cx) (_ : Z.prog = P) (_ : Z.w = w) {pins : List (Addr × Obj)} {σ : L2.St} {H : Hp} {s : Shared} {D : Addr} {y : V} {u : Value} {Nx : Hp → Prop} {Q E : Value → Shared → Prop},
  (∀ e s, Z.xe e s → E e s) → Inv Z pins σ H s → RelV y u → ad y D H Nx → (∀ H' s', Inv Z pins σ H' s' → Nx H' → Q .none s') → wpAny (model Z.prog Z.w) Z.A (call (.builtin "set.add") [.ref D, u]) Q E s
/-- {elt for target in iter if ..}: D the new set -/
def tSetC (o0 : Addr → HO) (ad : V → Addr → Hp → (Hp → Prop) → Prop) (wi : TI) (g : TG) (tt : TT) (te : TE) (vs : List Nat) : TE := fun σ H Q => wi σ H fun J H1 => ∀ D, H1 D = none →
  ∃ W : Nat → Nat → Hp → Prop, (∃ m, W 0 m (upd H1 D (o0 D))) ∧ ∀ i m H, W i m H → (J.stop i H ∧ Q (.ref D) H) ∨ (J.go i H ∧ ∃ Nx : Hp → Prop, (∀ H', Nx H' → ∃ m', m' < m ∧ W (i + 1) m' H') ∧
    ∀ x H', J.yld i H x H' → g x (wipe σ vs) H' fun σ2 H2 => wipe σ2 vs = wipe σ vs ∧ tt σ2 H2 fun b H3 => if b = true then te σ2 H3 fun y H4 => ad y D H4 Nx else Nx H3)
section
variable {X : Cx}
theorem setc_core {o0 : Addr → HO} {ad : V → Addr → Hp → (Hp → Prop) → Prop} (hnew : NewSet X.prog X.w o0) (hadd : AddSet X.prog X.w ad) {pins : List (Addr × Obj)} {s : Shared} {σ : L2.St} {H : Hp} {Q : VK} {elt tg iter : Expr} {ifs : List Expr} {scope : Scope} {own : List (PySem.Str × Nat)} {pos pos' : Pos} {wi : TI} {g : TG} {tt : TT} {te : TE} {use : Option (Value → Sem Unit)} {Qf : Value → Shared → Prop}
    (hc : X.calm = true) (hN : X.N.Nodup) (I : Inv X pins σ H s) (hi : PI X tg iter wi) (ok : BlkOk X.N X.env.scope scope own)
    (hg : ∀ (s : Shared) (H : Hp) (C : Addr) (cl : List (PySem.Str × Addr)) (fp : List Addr), PG (X.blk s H scope (compEnvC scope cl C X.env) fp) tg g) (ht : ∀ (s : Shared) (H : Hp) (C : Addr) (cl : List (PySem.Str × Addr)) (fp : List Addr), PTs (X.blk s H scope (compEnvC scope cl C X.env) fp) ifs tt)
    (he : ∀ (s : Shared) (H : Hp) (C : Addr) (cl : List (PySem.Str × Addr)) (fp : List Addr), PE (X.blk s H scope (compEnvC scope cl C X.env) fp) elt te) (hs : ∀ x, foldedSetIterable iter X.env x = pure x)
    (h : tSetC o0 ad wi g tt te (own.map (·.2)) σ H Q)
    (hRR : ∀ D C s' m H', Inv X pins σ H' s' → Q (.ref D) H' → s'.heap.Ns C m → FpOk X pins H' C → compPost (model X.prog X.w) X.A X.xe use Qf (.ref D) C (.ok .next) s') :
    wpAny (model X.prog X.w) X.A (comprehension (.SetComp elt [⟨tg, iter, ifs, 0⟩] scope pos) scope X.env pos' (newSet (.type "set")) false (eval iter X.env) use) Qf X.xe s := by
  have free1 : ∀ y ∈ scope.names, y.2 = .free → ∃ c, X.env.cells.lookup y.1 = some c := fun y hy e => (ok.free y hy e).elim (fun k => I.ok.has _ (.inl k)) fun k => I.ok.has _ (.inr k)
  refine wpAny_comprehension_free (use := use) rfl hs (closure_ok free1) ok.kind (fun y hy e => by rw [ok.uniq y hy, e])
    (thn (hi.run pins s σ H _ I h) fun xv u1 hx => thn hx fun itv u2 h2 => ?_)
  obtain ⟨it, fp, tn, J, G2, e, J2, T, q2, fa2, q⟩ := h2
  subst e
  refine PpSet.newSet_ok (newEnv_comp ?_)
  generalize eD : u2.heap.objs.size = D
  have nD : G2 D = none := J2.hok.fresh (Nat.le_of_eq eD)
  obtain ⟨W, ⟨m0, w00⟩, step1⟩ := q D nD
  -- the new list
  generalize es3 : ({ u2 with heap := u2.heap.push { cls := .type "set", dict := none, data := .set #[] 0 (.fresh 0 0 (!X.w.params.followText "set-order")) } } : Shared) = u3
  have J3 : Inv X pins σ (upd G2 D (o0 D)) u3 := by
    rw [← es3]
    refine J2.laid (t' := u2.toks) (fun b o e => Heap.get?_push_of_some _ e) (Nat.le_of_eq eD) ?_
    rw [← eD]
    exact hnew G2 u2.heap
  have e3 : u3.heap = u2.heap.push { cls := .type "set", dict := none, data := .set #[] 0 (.fresh 0 0 (!X.w.params.followText "set-order")) } := by rw [← es3]
  have szl : ∀ b ∈ fp, b < u2.heap.objs.size := fun b hb => by
    obtain ⟨o, e, _⟩ := T.obj _ _ q2 b hb
    exact Heap.lt_size e
  have fa3 : ∀ b ∈ fp, FpOk X pins (upd G2 D (o0 D)) b ∧ b < u3.heap.objs.size := fun b hb => by
    have hlt := szl b hb
    refine ⟨⟨?_, (fa2 b hb).2⟩, by rw [e3, Heap.size_push]; exact Nat.lt_succ_of_lt hlt⟩
    rw [upd_ne (by rw [← eD]; exact Nat.ne_of_lt hlt)]
    exact (fa2 b hb).1
  have q3 : tn 0 u3.heap := T.keep _ _ _ q2 fun b _ o e => by rw [e3]; exact Heap.get?_push_of_some _ e
  have J4 := block_start J3 ok hN fa3
  have tg1 := hg u3 (upd G2 D (o0 D)) u3.heap.objs.size (cellsFrom (u3.heap.objs.size + 1) scope.names (cloFrom X.env.cells scope.names [])) fp
  have tt1 := ht u3 (upd G2 D (o0 D)) u3.heap.objs.size (cellsFrom (u3.heap.objs.size + 1) scope.names (cloFrom X.env.cells scope.names [])) fp
  have te1 := he u3 (upd G2 D (o0 D)) u3.heap.objs.size (cellsFrom (u3.heap.objs.size + 1) scope.names (cloFrom X.env.cells scope.names [])) fp
  show codeAny _ _ (.compStart (.SetComp elt [⟨tg, iter, ifs, 0⟩] scope pos) 0 (.ref it) (.ref D) (compEnvC scope (cellsFrom (u3.heap.objs.size + 1) scope.names (cloFrom X.env.cells scope.names [])) u3.heap.objs.size X.env)) (compPost (model X.prog X.w) X.A X.xe use Qf (.ref D) u3.heap.objs.size) { u3 with heap := pushCells (u3.heap.push { cls := .type "dict", data := .dict #[] }) scope.names }
  have zfp : ∀ b ∈ fp, (upd G2 D (o0 D)) b = none := fun b hb => (fa3 b hb).1.1
  generalize ece : compEnvC scope (cellsFrom (u3.heap.objs.size + 1) scope.names (cloFrom X.env.cells scope.names [])) u3.heap.objs.size X.env = ce at J4 tg1 tt1 te1 ⊢
  have lc : ce.locals = u3.heap.objs.size := by subst ece; rfl
  generalize eG3 : upd G2 D (o0 D) = G3 at J3 J4 tg1 tt1 te1 w00 zfp fa3
  generalize es4 : ({ u3 with heap := pushCells (u3.heap.push { cls := .type "dict", data := .dict #[] }) scope.names } : Shared) = u4 at J4 ⊢
  have q4 : tn 0 u4.heap := T.keep _ _ _ q3 fun b _ o e => by rw [← es4]; exact pushCells_keeps _ _ _ _ (Heap.get?_push_of_some _ e)
  have fpo : ∀ {σ' : L2.St} {H' : Hp} {s' : Shared}, Inv (X.blk u3 G3 scope ce fp) [] σ' H' s' → (∀ b ∈ fp, H' b = none) → ∀ b ∈ fp, FpOk (X.blk u3 G3 scope ce fp) [] H' b := fun {σ' H' s'} I' hn b hb =>
    ⟨hn b hb, (I'.ok.exf b hb).1, I'.ok.exfs b hb, .inl hb, fun x c e => (I'.ok.exf b hb).2 x c e, fun p hp => absurd (show p ∈ ([] : List (Addr × Obj)) ++ [] from hp) (by simp)⟩
  have go1 : codeAny (model X.prog X.w) X.A (.compLoop (.SetComp elt [⟨tg, iter, ifs, 0⟩] scope pos) 0 (.ref it) (.ref D) ce) (compPost (model X.prog X.w) X.A X.xe use Qf (.ref D) u3.heap.objs.size) u4 := by
    refine PpSet.compLoopS_any (fun n s' => ∃ i H', Inv (X.blk u3 G3 scope ce fp) [] (wipe σ (own.map (·.2))) H' s' ∧ tn i s'.heap ∧ (∀ b ∈ fp, H' b = none) ∧ W i n H') ?_ m0 ⟨0, G3, J4, q4, zfp, w00⟩
    rintro n u5 ⟨i, G5, J5, q5, n5, w5⟩
    rcases step1 i n G5 w5 with ⟨stop, qq⟩ | ⟨go, Nx, hNx, step⟩
    · have dn := T.done (X.blk u3 G3 scope ce fp) rfl rfl rfl hc i [] u5 _ G5 (fun _ _ => False) J5 (fpo J5 n5) q5 stop
      refine thnF dn fun r u6 ⟨hr, J6⟩ => ?_
      subst hr
      -- back in the def's context
      have J7 : Inv X pins σ G5 u6 := J3.call' (ch := fp) J6.os J6.base J6.hok J6.bare fun b hb => ⟨(fa3 b hb).1.2.2.2.1, (fa3 b hb).1.2.1, (fa3 b hb).1.2.2.2.2.1, (fa3 b hb).1.2.2.2.2.2⟩
      have nC : G5 u3.heap.objs.size = none := by
        have z : G5 ce.locals = none := J6.free
        rw [lc] at z
        exact z
      obtain ⟨m, hn, _⟩ := J6.loc
      have hn : u6.heap.Ns ce.locals m := hn
      rw [lc] at hn
      exact hRR D u3.heap.objs.size u6 m G5 J7 qq hn (J3.fpOk (Nat.le_refl _) nC)
    · have it1 := T.item (X.blk u3 G3 scope ce fp) rfl rfl rfl hc i [] u5 _ G5 (fun _ _ => False) J5 (fpo J5 n5) q5 go
      refine thnF it1 fun r u6 ⟨u, hr, h6⟩ => ?_
      subst hr
      refine thnF h6 fun _ u7 ⟨x, G7, J7, r7, y7, q7, n7⟩ => ?_
      have J7' := J7.pinned (fpo J7 n7) (T.obj _ _ q7)
      refine thnF (tg1.run _ u7 _ G7 x u _ J7' r7 (step x G7 y7)) fun _ u8 ⟨σ8, G8, J8, hw8, q8⟩ => ?_
      refine thnF (tt1.run _ u8 σ8 G8 _ J8 q8) fun b u9 ⟨G9, J9, q9⟩ => ?_
      -- the turn's end
      have endt : ∀ {s' : Shared} {H' : Hp}, Inv (X.blk u3 G3 scope ce fp) ([] ++ pinsAt fp u7.heap) σ8 H' s' → Nx H' → ∃ m, m < n ∧ ∃ i H', Inv (X.blk u3 G3 scope ce fp) [] (wipe σ (own.map (·.2))) H' s' ∧ tn i s'.heap ∧ (∀ b ∈ fp, H' b = none) ∧ W i m H' := fun {s' H'} I' nx => by
        obtain ⟨m', hm, w'⟩ := hNx H' nx
        have pin' : ∀ b ∈ fp, ∀ o, u7.heap.get? b = some o → s'.heap.get? b = some o ∧ H' b = none := fun b hb o e =>
          let z := I'.pin (b, o) (List.mem_append_right _ (List.mem_append_right _ (mem_pinsAt hb e)))
          ⟨z.1, z.2.1⟩
        have hl : (wipe σ (own.map (·.2))).length = σ8.length := by rw [← hw8, wipe_length]
        refine ⟨m', hm, i + 1, H', (I'.unpinned (pins := [])).weak hl (fun j v e => ?_), T.keep _ _ _ q7 fun b hb o e => (pin' b hb o e).1, fun b hb => ?_, w'⟩
        · rw [← hw8] at e
          exact (wipe_some e).1
        · obtain ⟨o, e, _⟩ := T.obj _ _ q7 b hb
          exact (pin' b hb o e).2
      cases b with
      | false =>
        simp only [Bool.false_eq_true, if_false] at q9 ⊢
        exact endt J9 q9
      | true =>
        simp only [if_true] at q9 ⊢
        refine thnF (te1.run _ u9 σ8 G9 _ J9 q9) fun z u10 ⟨yv, G10, J10, r10, nx⟩ => ?_
        exact hadd (X.blk u3 G3 scope ce fp) rfl rfl (fun _ _ z => False.elim z) J10 r10 nx fun H' u11 J11 nx' => endt J11 nx'
  exact PpSet.codeAny_compStart_set go1 (T.self X.A 0 _ _ _ q4 go1)
/-- as a value -/
theorem pe_setc {o0 : Addr → HO} {ad : V → Addr → Hp → (Hp → Prop) → Prop} {elt tg iter : Expr} {ifs : List Expr} {scope : Scope} {own : List (PySem.Str × Nat)} {pos : Pos} {wi : TI} {g : TG} {tt : TT} {te : TE} (hnew : NewSet X.prog X.w o0) (hadd : AddSet X.prog X.w ad) (hc : X.calm = true) (hN : X.N.Nodup) (hi : PI X tg iter wi) (ok : BlkOk X.N X.env.scope scope own)
    (hg : ∀ (s : Shared) (H : Hp) (C : Addr) (cl : List (PySem.Str × Addr)) (fp : List Addr), PG (X.blk s H scope (compEnvC scope cl C X.env) fp) tg g)
    (ht : ∀ (s : Shared) (H : Hp) (C : Addr) (cl : List (PySem.Str × Addr)) (fp : List Addr), PTs (X.blk s H scope (compEnvC scope cl C X.env) fp) ifs tt)
    (he : ∀ (s : Shared) (H : Hp) (C : Addr) (cl : List (PySem.Str × Addr)) (fp : List Addr), PE (X.blk s H scope (compEnvC scope cl C X.env) fp) elt te)
    (hs : ∀ x, foldedSetIterable iter X.env x = pure x := by intro _; rfl) : PE X (.SetComp elt [⟨tg, iter, ifs, 0⟩] scope pos) (tSetC o0 ad wi g tt te (own.map (·.2))) := by
  refine ⟨fun pins s σ H Q I h => ?_⟩
  rw [PpSet.eval_SetComp]
  refine setc_core hnew hadd hc hN I hi ok hg ht he hs h fun D C s' m H' I' q hn f => ⟨m, hn, fun h'' sb => ?_⟩
  obtain ⟨z0, z1, z2, z3, z4, z5⟩ := f
  exact ⟨.ref D, H', I'.turned (t' := s'.toks) (fun b o hb e => (sb.2 b hb).trans e) z0 z1 z3 z4 z5, rfl, q⟩
/-- over a sequence that the block leaves as it is -/
theorem setc_tup {o0 : Addr → HO} {ad : V → Addr → Hp → (Hp → Prop) → Prop} {K : PySem.W.Frag} {a : Addr} {xs : List V} {g : TG} {tt : TT} {te : TE} {vs : List Nat} {σ : L2.St} {H1 : Hp} {D : Addr} {Qd : Hp → Prop} (Pv : Nat → Hp → Prop) (h0 : Pv 0 (upd H1 D (o0 D))) (hl : ∀ i H, i ≤ xs.length → Pv i H → SqT K H a xs)
    (hs : ∀ i x H, xs[i]? = some x → Pv i H → g x (wipe σ vs) H fun σ2 H2 => wipe σ2 vs = wipe σ vs ∧ tt σ2 H2 fun b H3 => if b = true then te σ2 H3 fun y H4 => ad y D H4 (Pv (i + 1)) else Pv (i + 1) H3) (hd : ∀ H, Pv xs.length H → Qd H) :
    ∃ W : Nat → Nat → Hp → Prop, (∃ m, W 0 m (upd H1 D (o0 D))) ∧ ∀ i m H, W i m H → ((Itt K a).stop i H ∧ Qd H) ∨ ((Itt K a).go i H ∧ ∃ Nx : Hp → Prop, (∀ H', Nx H' → ∃ m', m' < m ∧ W (i + 1) m' H') ∧
      ∀ x H', (Itt K a).yld i H x H' → g x (wipe σ vs) H' fun σ2 H2 => wipe σ2 vs = wipe σ vs ∧ tt σ2 H2 fun b H3 => if b = true then te σ2 H3 fun y H4 => ad y D H4 Nx else Nx H3) := by
  refine ⟨fun i m H => m = xs.length - i ∧ i ≤ xs.length ∧ Pv i H, ⟨xs.length, by omega, Nat.zero_le _, h0⟩, fun i m H ⟨em, hi, p⟩ => ?_⟩
  subst em
  have q := hl i H hi p
  rcases Nat.lt_or_eq_of_le hi with hlt | e
  · refine .inr ⟨⟨xs, xs[i], q, List.getElem?_eq_getElem hlt⟩, Pv (i + 1), fun H' p' => ⟨xs.length - (i + 1), by omega, rfl, hlt, p'⟩, fun x H' y => ?_⟩
    obtain ⟨e, y⟩ := y
    subst e
    exact hs i x _ (y xs q) p
  · subst e
    exact .inl ⟨⟨xs, q, Nat.le_refl _⟩, hd H p⟩
end
/-! ### sets of ints -/
theorem newInts {P : Program} {w : World} : NewSet P w (fun D => SetO w D (fun _ => false) 0) := fun H h => setO_new (setR_fresh w)
def adInt (w : World) : V → Addr → Hp → (Hp → Prop) → Prop := fun y D H Nx => ∃ (k : Int) (S : Int → Bool) (n : Nat), y = .int k ∧ H D = some (SetO w D S n) ∧ n + 1 < scanBound ∧ Nx (upd H D (SetO w D (fun j => S j || decide (j = k)) (if S k = true then n else n + 1)))
theorem addInts {P : Program} {w : World} : AddSet P w (adInt w) := by
  intro Z e1 e2 pins σ H s D y u Nx Q E hE I r h k
  subst e1 e2
  obtain ⟨i, S, n, rfl, hD, hn, nx⟩ := h
  refine wpAny_mono (mt_sadd (X := Z) pins s σ H (.ref D) [.int i] (.ref D) [u] (fun v H' => v = .non ∧ Nx H') I rfl (.cons r .nil) ⟨D, i, S, n, rfl, rfl, hD, hn, rfl, nx⟩) (fun v s' z => ?_) hE
  obtain ⟨v', H', I', rv, rfl, nx'⟩ := z
  cases (show v = Value.none from rv)
  exact k H' s' I' nx'
end Tw
namespace K08
open PySem PySem.Spec PyProof.Rows L2 He Tw
def topS (i : Nat) : Stmt := PySem.Challenge.pw_twoheads_k08_whole_bags.main.body.getD i (.Pass ⟨0, 0, 0, 0⟩)
def dM (c : Str) (i j : Nat) (m : Str) (dvs : List Dv) : DefA := ⟨fun K => ma K (ga K c) m, m, c ++ "." ++ m, defArgs (inClass (topS i) j), defBody (inClass (topS i) j), defScope (inClass (topS i) j), dvs, []⟩
def dF (x : Str) (i : Nat) : DefA := ⟨fun K => ga K x, x, x, defArgs (topS i), defBody (topS i), defScope (topS i), [], []⟩
/-- the errors with one field -/
def errs : List (Str × Nat × Str) := [("BadItem", 5, "part"), ("BadPlace", 6, "at"), ("Disordered", 7, "at"), ("TooMany", 8, "most")]
def clss : List Str := ["HeadsError", "BadInput", "Refused", "BadItem", "BadPlace", "Disordered", "TooMany", "Item", "Row"]
def fnames : List Str := ["is_lettered", "is_number", "is_rank", "as_items", "need_row", "by_rank", "taken", "taken_of_rank", "joined", "repeated", "_law_pen", "_law_draw", "_law_pick", "_law_pairs", "_law_values", "_law_told", "_law_row", "_law_numbers_right", "_law_pairs_right", "_law_three_right", "law"]
def blts : List Str := ["sum", "repr", "list", "int", "len", "abs", "isinstance", "range", "str", "bool", "all", "enumerate", "tuple", "sorted", "iter"]
def kinds : List String := ["NoneType", "bool", "int", "str", "list", "tuple", "dict"]
/-- where the empty tuple stands that Row.__init__ has as its default -/
def nilAt (K : Fg) : Addr := match K.lookup (ma K (ga K "Row") "__init__") with
  | some ⟨_, _, .func fd, _⟩ => (match fd.defaults with
    | .ref t => (match K.lookup t with
      | some ⟨_, _, .seq its _, _⟩ => (match its.toList with
        | .ref e :: _ => e
        | _ => 0)
      | _ => 0)
    | _ => 0)
  | _ => 0
def nilB (K : Fg) : Bool := match K.lookup (nilAt K) with
  | some ⟨.type c, _, .seq its _, _⟩ => decide (c = "tuple") && its.toList.isEmpty
  | _ => false
def mostB (K : Fg) : Bool := match PySem.W.findIn K (.ref (ga K "Row")) "MOST" with
  | some (some (.int i t)) => decide (i = 200) && eqO (PySem.W.specialIn K (.int i t) "__get__") (some none)
  | _ => false
theorem nilB_ok {K : Fg} (h : nilB K = true) (H : Hp) : SqT K H (nilAt K) [] := by
  unfold nilB at h
  cases q : K.lookup (nilAt K) with
  | none =>
    rw [q] at h
    cases h
  | some o =>
    obtain ⟨oc, od, dt, sl⟩ := o
    rw [q] at h
    cases oc with
    | type c =>
      cases dt with
      | seq its n =>
        obtain ⟨h1, h2⟩ := ba h
        have e1 := of_decide_eq_true h1
        subst e1
        have e2 : its.toList = [] := List.isEmpty_iff.mp h2
        refine .inr ⟨_, its, n, q, rfl, rfl, ?_, ?_⟩
        · have e3 : its.size = 0 := by
            rw [← Array.length_toList, e2]
            rfl
          rw [e3]
          exact Nat.zero_le _
        · rw [e2]
          exact .nil
      | _ => cases h
    | _ => cases h
theorem mostB_ok {K : Fg} (h : mostB K = true) : ∃ u, Con K (ga K "Row") "MOST" (.int 200) u := by
  unfold mostB at h
  cases q : PySem.W.findIn K (.ref (ga K "Row")) "MOST" with
  | none =>
    rw [q] at h
    cases h
  | some o =>
    rw [q] at h
    cases o with
    | none => cases h
    | some v =>
      cases v with
      | int i t =>
        obtain ⟨h1, h2⟩ := ba h
        have e := of_decide_eq_true h1
        subst e
        exact ⟨_, q, ⟨_, rfl⟩, eqO_ok h2, by decide +kernel⟩
      | _ => cases h
def fn : List DefA := errs.map (fun e => dM e.1 e.2.1 0 "__init__" []) ++ [dM "Item" 17 0 "__init__" [.str ""], dM "Item" 17 3 "before" [], dM "Row" 25 1 "__init__" [.adr nilAt], dM "Row" 25 4 "__iter__" [], dM "Row" 25 10 "listed" [],
  dM "Row" 25 17 "__iadd__" [], dM "Row" 25 15 "__add__" [], dM "Row" 25 16 "__radd__" [], dM "Row" 25 18 "__or__" [], dM "Row" 25 19 "__ror__" [], dM "Row" 25 21 "__and__" [], dM "Row" 25 22 "__rand__" [], dM "Row" 25 24 "__sub__" [], dM "Row" 25 25 "__rsub__" [], dM "Row" 25 27 "__xor__" [], dM "Row" 25 28 "__rxor__" [],
  dM "Row" 25 30 "__mul__" [], dM "Row" 25 31 "__rmul__" [], dM "Row" 25 3 "__len__" [],
  dF "is_lettered" 12, dF "is_number" 15, dF "is_rank" 16, dF "as_items" 19, dF "need_row" 20, dF "by_rank" 21, dF "taken" 22, dF "taken_of_rank" 23, dF "joined" 26, dF "repeated" 27,
  dF "_law_pen" 29, dF "_law_draw" 30, dF "_law_pick" 31, dF "_law_pairs" 32, dF "_law_values" 33, dF "_law_told" 34, dF "_law_row" 35, dF "_law_numbers_right" 36, dF "_law_pairs_right" 37, dF "_law_three_right" 38, dF "law" 39,
  dM "Row" 25 9 "__eq__" [], dM "Row" 25 11 "ranks" [], dM "Row" 25 12 "number" [], dM "Row" 25 13 "blocks" [], dM "Row" 25 14 "within" []]
/-- the operators with their marks -/
def bops : List Operator := [.Add, .BitOr, .BitAnd, .Sub, .BitXor]
def lkind : List String := ["list", "tuple"]
/-- op of a list or tuple has no number slot, and Row is no kind of it -/
def seqB (K : Fg) (x : Str) (op : Operator) (t : String) : Bool := (match PySem.W.findIn K (.type t) (PySem.dunder op.info.2), PySem.W.findIn K (.type t) (PySem.dunderR op.info.2) with
  | some fo, some ro => !((fo.isSome && !PySem.isSeqSlot fo) || (ro.isSome && !PySem.isSeqSlot ro))
  | _, _ => false) && decide (PySem.W.subIn K (.ref (ga K x)) (.type t) = some false)
def letters : Str := "abcdefghijklmnopqrstuvwxyz"
def beyond : Int := 10 ^ 30
def fs : Fz := [fun K => clss.all fun x => (Fa.glo x).ok K, fun K => fnames.all fun x => (Fa.glo x).ok K, fun K => blts.all fun x => (Fa.free x).ok K, fun K => (Fa.int "BEYOND" beyond).ok K, fun K => (Fa.int "LONGEST" 8).ok K, fun K => (Fa.str "LETTERS" letters).ok K,
  fun K => errs.all fun e => (Fy.xc e.1).ok K, fun K => Fy.xo.ok K, fun K => errs.all fun e => (Fy.ini e.1).ok K, fun K => errs.all fun e => (Fy.names e.1 [e.2.2]).ok K, fun K => errs.all fun e => errs.all fun d => (Fy.kit e.1 d.1 (decide (e.1 = d.1))).ok K,
  fun K => errs.all fun e => decide (PySem.W.exmOne K (.ref (ga K e.1)) (.ref (ga K "HeadsError")) = some true),
  fun K => kinds.all fun t => decide (PySem.W.kitOne K (.type t) (.ref (ga K "Item")) = some false) && errs.all fun e => decide (PySem.W.kitOne K (.type t) (.ref (ga K e.1)) = some false),
  fun K => (Fy.kit "Item" "Item" true).ok K, fun K => (Fy.kit "Row" "Row" true).ok K, fun K => PySem.W.notFirst K (ga K "Row") (.ref (ga K "Row")),
  fun K => (Fa.cls "Item").ok K, fun K => (Fa.mkr "Item").ok K, fun K => (["rank", "name"] : List Str).all fun f => (Fa.noat "Item" f).ok K, fun K => (Fa.meth "Item" "before").ok K,
  fun K => (Fa.cls "Row").ok K, fun K => (Fa.mkr "Row").ok K, fun K => (Fa.noat "Row" "state").ok K, fun K => (["listed", "__iter__"] : List Str).all fun m => (Fa.meth "Row" m).ok K,
  fun K => (["Item", "Row"] : List Str).all fun c => decide (PySem.W.mroIn K (ga K c) (.type "object") = some true) && eqO (PySem.W.findIn K (.ref (ga K c)) "__class__") (some (some (.builtin "object.__class__"))), nilB, mostB,
  fun K => (["__iadd__", "__add__", "__radd__", "__or__", "__ror__", "__and__", "__rand__", "__sub__", "__rsub__", "__xor__", "__rxor__", "__mul__", "__rmul__", "__len__"] : List Str).all fun m => ownB K "Row" m,
  fun K => (["number", "ranks", "within", "blocks", "__eq__"] : List Str).all fun m => (Fa.meth "Row" m).ok K, fun K => (["list", "tuple"] : List String).all fun t => decide (PySem.W.kitOne K (.type t) (.ref (ga K "Row")) = some false), fun _ => true, fun _ => true,
  fun K => bops.all fun op => lkind.all fun t => binTB K "Row" op t && seqB K "Row" op t, fun K => binTB K "Row" .Mult "int", fun K => decide (PySem.W.subIn K (.ref (ga K "Row")) (.type "int") = some false)]
/-- what the walk asks of the written part and of the module's names -/
structure Txt (K : Fg) (mg : Str → Option Value) : Prop where
  c : SaysZ fs fn K
  gl : ∀ x, (Fa.glo x).ok K = true → mg x = some (.ref (ga K x))
  fr : ∀ x, (Fa.free x).ok K = true → mg x = none
  nt : ∀ x i, (Fa.int x i).ok K = true → ∃ t, mg x = some (.int i t)
  tx : ∀ x z, (Fa.str x z).ok K = true → ∃ t, mg x = some (.str z t)
section
variable {K : Fg} {mg : Str → Option Value}
theorem Txt.cl (T : Txt K mg) {x : Str} (h : x ∈ clss) : mg x = some (.ref (ga K x)) := T.gl x (of_all (f := fun x => (Fa.glo x).ok K) (T.c.fact 0) h)
theorem Txt.fn (T : Txt K mg) {x : Str} (h : x ∈ fnames) : mg x = some (.ref (ga K x)) := T.gl x (of_all (f := fun x => (Fa.glo x).ok K) (T.c.fact 1) h)
theorem Txt.bl (T : Txt K mg) {x : Str} (h : x ∈ blts) : mg x = none := T.fr x (of_all (f := fun x => (Fa.free x).ok K) (T.c.fact 2) h)
theorem Txt.beyond (T : Txt K mg) : ∃ t, mg "BEYOND" = some (.int K08.beyond t) := T.nt _ _ (T.c.fact 3)
theorem Txt.longest (T : Txt K mg) : ∃ t, mg "LONGEST" = some (.int 8 t) := T.nt _ _ (T.c.fact 4)
theorem Txt.letters (T : Txt K mg) : ∃ t, mg "LETTERS" = some (.str K08.letters t) := T.tx _ _ (T.c.fact 5)
theorem Txt.xc (T : Txt K mg) {e : Str × Nat × Str} (h : e ∈ errs) : XC K (ga K e.1) := xc_ok (of_all (f := fun e : Str × Nat × Str => (Fy.xc e.1).ok K) (T.c.fact 6) h)
theorem Txt.xo (T : Txt K mg) : XO K := xo_ok (T.c.fact 7)
theorem Txt.ini (T : Txt K mg) {e : Str × Nat × Str} (h : e ∈ errs) : PySem.W.findIn K (.ref (ga K e.1)) "__init__" = some (some (.ref (ma K (ga K e.1) "__init__"))) ∧ PySem.W.typeIn K (.ref (ma K (ga K e.1) "__init__")) = some (.type "function") := ini_ok (of_all (f := fun e : Str × Nat × Str => (Fy.ini e.1).ok K) (T.c.fact 8) h)
theorem Txt.no (T : Txt K mg) {e : Str × Nat × Str} (h : e ∈ errs) : PySem.W.findIn K (.ref (ga K e.1)) e.2.2 = some none := names_ok (of_all (f := fun e : Str × Nat × Str => (Fy.names e.1 [e.2.2]).ok K) (T.c.fact 9) h) List.mem_cons_self
theorem Txt.kit (T : Txt K mg) {e d : Str × Nat × Str} (h : e ∈ errs) (g : d ∈ errs) : PySem.W.kitOne K (.ref (ga K e.1)) (.ref (ga K d.1)) = some (decide (e.1 = d.1)) := kit_ok (of_all (f := fun d : Str × Nat × Str => (Fy.kit e.1 d.1 (decide (e.1 = d.1))).ok K) (of_all (f := fun e : Str × Nat × Str => errs.all fun d => (Fy.kit e.1 d.1 (decide (e.1 = d.1))).ok K) (T.c.fact 10) h) g)
theorem Txt.exm (T : Txt K mg) {e : Str × Nat × Str} (h : e ∈ errs) : PySem.W.exmOne K (.ref (ga K e.1)) (.ref (ga K "HeadsError")) = some true := of_decide_eq_true (of_all (f := fun e : Str × Nat × Str => decide (PySem.W.exmOne K (.ref (ga K e.1)) (.ref (ga K "HeadsError")) = some true)) (T.c.fact 11) h)
theorem Txt.kind (T : Txt K mg) {t : String} (h : t ∈ kinds) : PySem.W.kitOne K (.type t) (.ref (ga K "Item")) = some false ∧ ∀ e ∈ errs, PySem.W.kitOne K (.type t) (.ref (ga K e.1)) = some false := by
  obtain ⟨a, b⟩ := ba (List.all_eq_true.mp (T.c.fact 12) t h)
  exact ⟨of_decide_eq_true a, fun e he => of_decide_eq_true (List.all_eq_true.mp b e he)⟩
theorem Txt.kitII (T : Txt K mg) : PySem.W.kitOne K (.ref (ga K "Item")) (.ref (ga K "Item")) = some true := kit_ok (T.c.fact 13)
theorem Txt.kitRR (T : Txt K mg) : PySem.W.kitOne K (.ref (ga K "Row")) (.ref (ga K "Row")) = some true := kit_ok (T.c.fact 14)
theorem Txt.nfR (T : Txt K mg) : PySem.W.notFirst K (ga K "Row") (.ref (ga K "Row")) = true := T.c.fact 15
theorem Txt.cls (T : Txt K mg) : Cls K (ga K "Item") := cls_ok (T.c.fact 16)
theorem Txt.mkI (T : Txt K mg) : Mk K (ga K "Item") (ma K (ga K "Item") "__init__") := mkr_ok (T.c.fact 17)
theorem Txt.na (T : Txt K mg) {f : Str} (h : f ∈ (["rank", "name"] : List Str)) : NoAttr K (ga K "Item") f := noat_ok (List.all_eq_true.mp (T.c.fact 18) f h)
theorem Txt.mtB (T : Txt K mg) : Meth K (ga K "Item") "before" (ma K (ga K "Item") "before") := meth_ok (T.c.fact 19)
theorem Txt.clsR (T : Txt K mg) : Cls K (ga K "Row") := cls_ok (T.c.fact 20)
theorem Txt.mkR (T : Txt K mg) : Mk K (ga K "Row") (ma K (ga K "Row") "__init__") := mkr_ok (T.c.fact 21)
theorem Txt.naR (T : Txt K mg) : NoAttr K (ga K "Row") "state" := noat_ok (T.c.fact 22)
theorem Txt.mtR (T : Txt K mg) {m : Str} (h : m ∈ (["listed", "__iter__"] : List Str)) : Meth K (ga K "Row") m (ma K (ga K "Row") m) := meth_ok (List.all_eq_true.mp (T.c.fact 23) m h)
theorem Txt.ob (T : Txt K mg) {c : Str} (h : c ∈ (["Item", "Row"] : List Str)) : PySem.W.mroIn K (ga K c) (.type "object") = some true ∧ PySem.W.findIn K (.ref (ga K c)) "__class__" = some (some (.builtin "object.__class__")) := by
  obtain ⟨a, b⟩ := ba (List.all_eq_true.mp (T.c.fact 24) c h)
  exact ⟨of_decide_eq_true a, eqO_ok b⟩
theorem Txt.nil (T : Txt K mg) (H : Hp) : SqT K H (nilAt K) [] := nilB_ok (T.c.fact 25) H
theorem Txt.most (T : Txt K mg) : ∃ u, Con K (ga K "Row") "MOST" (.int 200) u := mostB_ok (T.c.fact 26)
theorem Txt.own (T : Txt K mg) {m : Str} (h : m ∈ (["__iadd__", "__add__", "__radd__", "__or__", "__ror__", "__and__", "__rand__", "__sub__", "__rsub__", "__xor__", "__rxor__", "__mul__", "__rmul__", "__len__"] : List Str)) : OwnB K (ga K "Row") m (ma K (ga K "Row") m) := ownB_ok (List.all_eq_true.mp (T.c.fact 27) m h)
theorem Txt.mtR2 (T : Txt K mg) {m : Str} (h : m ∈ (["number", "ranks", "within", "blocks", "__eq__"] : List Str)) : Meth K (ga K "Row") m (ma K (ga K "Row") m) := meth_ok (List.all_eq_true.mp (T.c.fact 28) m h)
theorem Txt.kitR (T : Txt K mg) {t : String} (h : t ∈ (["list", "tuple"] : List String)) : PySem.W.kitOne K (.type t) (.ref (ga K "Row")) = some false := of_decide_eq_true (List.all_eq_true.mp (T.c.fact 29) t h)
theorem Txt.binT (T : Txt K mg) {op : Operator} {t : String} (h : op ∈ bops) (h2 : t ∈ lkind) : BinT K (ga K "Row") op t ∧ seqB K "Row" op t = true := by
  obtain ⟨h3, h4⟩ := ba (List.all_eq_true.mp (List.all_eq_true.mp (T.c.fact 32) op h) t h2)
  exact ⟨binTB_ok h3, h4⟩
theorem Txt.mulT (T : Txt K mg) : BinT K (ga K "Row") .Mult "int" := binTB_ok (T.c.fact 33)
theorem Txt.mulS (T : Txt K mg) : PySem.W.subIn K (.ref (ga K "Row")) (.type "int") = some false := of_decide_eq_true (T.c.fact 34)
end
abbrev s_draw : Stmt := topS 30
abbrev N_draw : List Str := ["_law_pen_here", "_law_many", "_law_digit", "_law_at", "_law_cell", "_law_great", "_law_mixed"]
theorem sc_draw : FnScope N_draw ["_law_pen_here", "_law_many"] (defScope s_draw) := ⟨rfl, rfl, rfl, by decide +kernel, rfl, by decide +kernel, by decide +kernel⟩
section
variable {P : Program} {w : World} {K : Fg} {mg : Str → Option Value} {base : Heap}
theorem ok_draw {f : Addr} {fd : FuncData} (F : FnP K "_law_draw" "_law_draw" s_draw f fd) (T : Txt K mg) : FnOk P w K mg base CX0 1 f fd ["_law_pen_here", "_law_many"] spDrawL := by
  have zint : mg "int" = none := T.bl (by decide +kernel)
  have zlen : mg "len" = none := T.bl (by decide +kernel)
  have zabs : mg "abs" = none := T.bl (by decide +kernel)
  refine F.ok sc_draw (fun vs H Q E h => ?_) (fun cdv A outer s H vs Q E hr h => ?_)
  · obtain ⟨p, l, m, c, rfl, _⟩ := h
    rfl
  · obtain ⟨p, l, m, c, rfl, hm0, hm1, ⟨ns, i, g, hp, hl, hlp, hn, hi0, hic, hg0⟩, hc, k⟩ := h
    have hsp : SqL K H p [.ref l, .int i, .int g] := SqL.of hp
    have hsl : SqL K H l (ns.map V.int) := SqL.of hl
    refine ⟨_, PSs.nox (pss_cons (ps_if (pt_cmpR op_gt (pe_ix ix_list (pv 0) pe_int (fun _ _ => rfl)) pe_int (nomark _)) (pss_cons (ps_set (i := 2) sc_draw.nd rfl (Or.inl rfl) (pe_op op_mod (pe_callTy call_int1 (by rfl) zint (by decide +kernel) (pa_cons (pe_ix ix_list (pv 0) pe_int (fun _ _ => rfl)) pa_nil)) (pv 1)))
    (pss_cons (ps_asg (pe_op op_fdiv (pe_callTy call_int1 (by rfl) zint (by decide +kernel) (pa_cons (pe_ix ix_list (pv 0) pe_int (fun _ _ => rfl)) pa_nil)) (pv 1)) (pg_sub (pv 0) pe_int set_list))
    (pss_one (ps_ret (pv 2))))) pss_nil)
    (pss_cons (ps_set (i := 3) sc_draw.nd rfl (Or.inl rfl) (pe_ix ix_list (pv 0) pe_int (fun _ _ => rfl)))
    (pss_cons (ps_asg (pe_op op_add (pv 3) pe_int) (pg_sub (pv 0) pe_int set_list))
    (pss_cons (ps_set (i := 4) sc_draw.nd rfl (Or.inl rfl) (pe_op op_add (pe_op op_mul pe_int (pv 3)) pe_int))
    (pss_mid (ps_if (pt_cmpR (op_neD hr.units) (pe_ix ix_list (pv 0) pe_int (fun _ _ => rfl)) (pe_lst pa_nil) (nomark _)) (pss_one (ps_set (i := 4) sc_draw.nd rfl (Or.inl rfl) (pe_ix ix_list (pe_ix ix_list (pv 0) pe_int (fun _ _ => rfl)) (pe_op op_mod (pe_callTy call_int1 (by rfl) zint (by decide +kernel) (pa_cons (pv 3) pa_nil)) (pe_callB call_len (by rfl) zlen (by decide +kernel) (pa_cons (pe_ix ix_list (pv 0) pe_int (fun _ _ => rfl)) pa_nil))) (fun _ _ => rfl)))) pss_nil)
    (pss_mid (ps_if (PW.pt (pw_and (pt_cmpR op_lt (pv 3) (pe_callB call_len (by rfl) zlen (by decide +kernel) (pa_cons (pe_ix ix_list (pv 0) pe_int (fun _ _ => rfl)) pa_nil)) (nomark _)) (pw_and1 (pt_cmpR op_ge (pe_callB call_abs (by rfl) zabs (by decide +kernel) (pa_cons (pv 4) pa_nil)) (pe_op op_pow pe_int pe_int) (nomark _))))) (pss_cons (ps_set (i := 5) sc_draw.nd rfl (Or.inl rfl) (pe_op op_add (pe_op op_mul pe_int (pe_op op_sub (pe_callB call_abs (by rfl) zabs (by decide +kernel) (pa_cons (pv 4) pa_nil)) (pe_op op_pow pe_int pe_int))) (pe_callTy call_int1 (by rfl) zint (by decide +kernel) (pa_cons (pe_cmpR op_lt (pv 4) pe_int (nomark _)) pa_nil))))
    (pss_cons (ps_asg (pe_op op_fdiv (pe_callTy call_int1 (by rfl) zint (by decide +kernel) (pa_cons (pv 5) pa_nil)) (pv 1)) (pg_sub (pv 0) pe_int set_list))
    (pss_one (ps_ret (pe_op op_mod (pe_callTy call_int1 (by rfl) zint (by decide +kernel) (pa_cons (pv 5) pa_nil)) (pv 1)))))) pss_nil)
    (pss_mid (ps_set (i := 6) sc_draw.nd rfl (Or.inl rfl) (pe_op op_mod (pe_callTy call_int1 (by rfl) zint (by decide +kernel) (pa_cons (pe_op op_pow (pe_op op_add (pe_op op_add (pe_op op_mod (pe_callTy call_int1 (by rfl) zint (by decide +kernel) (pa_cons (pv 4) pa_nil)) pe_int) (pe_op op_mul pe_int (pv 3))) pe_int) pe_int) pa_nil)) pe_int))
    (pss_mid (ps_set (i := 6) sc_draw.nd rfl (Or.inl rfl) (pe_op op_mod (pe_callTy call_int1 (by rfl) zint (by decide +kernel) (pa_cons (pe_op op_pow (pe_op op_add (pe_op op_add (pe_op op_mul (pv 6) (pe_op op_add (pe_op op_mul pe_int (pv 3)) pe_int)) (pe_op op_mul (pe_op op_mul pe_int (pv 3)) (pv 3))) pe_int) pe_int) pa_nil)) pe_int))
    (pss_one (ps_ret (pe_op op_mod (pe_callTy call_int1 (by rfl) zint (by decide +kernel) (pa_cons (pe_op op_fdiv (pv 6) pe_int) pa_nil)) (pv 1)))))))))))), ?_⟩
    -- if pen[2] > 0
    refine ⟨_, rfl, p, _, 2, .int g, rfl, rfl, hsp, rfl, _, _, rfl, rfl, _, rfl, ?_⟩
    refine ite2 (fun hgt => ?_) (fun hle => ?_)
    · refine ⟨_, rfl, p, _, 2, .int g, rfl, rfl, hsp, rfl, .inl ⟨g, rfl, _, rfl, g, m, rfl, rfl, hm0, ?_⟩⟩
      refine ⟨_, rfl, p, _, 2, .int g, rfl, rfl, hsp, rfl, .inl ⟨g, rfl, _, rfl, g, m, rfl, rfl, ⟨hm0, hm1⟩, ?_⟩⟩
      refine ⟨_, rfl, p, _, 2, 2, rfl, rfl, hp, rfl, _, rfl, ?_⟩
      refine k (g % m) _ (Int.emod_nonneg _ (by omega)) (Int.emod_lt_of_pos _ hm0) ⟨ns, i, g / m, upd_same, by rw [upd_ne hlp]; exact hl, hlp, hn, hi0, by omega, Int.ediv_nonneg hg0 (by omega)⟩ But.upd
    · -- at = pen[1]; pen[1] = at + 1; cell = ..
      refine ⟨_, rfl, p, _, 1, .int i, rfl, rfl, hsp, rfl, ?_⟩
      refine ⟨_, rfl, i, 1, rfl, rfl, _, rfl, p, _, 1, 1, rfl, rfl, hp, rfl, ?_⟩
      refine ⟨_, rfl, _, i, rfl, rfl, .inl ⟨by decide, by decide⟩, _, _, rfl, rfl, ?_⟩
      have hp1 : (upd H p (.lst ([V.ref l, .int i, .int g].set 1 (.int (i + 1))))) p = some (.lst [.ref l, .int (i + 1), .int g]) := upd_same
      have hl1 : (upd H p (.lst ([V.ref l, .int i, .int g].set 1 (.int (i + 1))))) l = some (.lst (ns.map V.int)) := by rw [upd_ne hlp]; exact hl
      have b1 : But p H (upd H p (.lst ([V.ref l, .int i, .int g].set 1 (.int (i + 1))))) := But.upd
      generalize upd H p (.lst ([V.ref l, .int i, .int g].set 1 (.int (i + 1)))) = H1 at hp1 hl1 b1 ⊢
      -- if pen[0] != []
      refine ⟨fun σ' H' => ∃ z : Int, σ' = [some (.ref p), some (.int m), none, some (.int i), some (.int z), none, none] ∧ H' p = some (.lst [.ref l, .int (i + 1), .int g]) ∧ H' l = some (.lst (ns.map V.int)) ∧ But p H H', ?_, ?_⟩
      · refine ⟨_, rfl, p, _, 0, .ref l, rfl, rfl, SqL.of hp1, rfl, (by show 0 ≤ sizeLine; decide), fun q hq => ?_⟩
        have hq1 : p ≠ q := ne_of_none hp1 hq
        have hq2 : l ≠ q := ne_of_none hl1 hq
        have hp2 : (upd H1 q (.lst [])) p = some (.lst [.ref l, .int (i + 1), .int g]) := by rw [upd_ne hq1]; exact hp1
        have hl2 : (upd H1 q (.lst [])) l = some (.lst (ns.map V.int)) := by rw [upd_ne hq2]; exact hl1
        have hq3 : (upd H1 q (.lst [])) q = some (.lst []) := upd_same
        have b2 : But p H (upd H1 q (.lst [])) := b1.trans (But.of (same_new hq))
        generalize upd H1 q (.lst []) = H2 at hp2 hl2 hq3 b2 ⊢
        refine ⟨_, _, .lst (SqL.of hl2) (dp_ints ns), .lst (SqL.of hq3) .nil, shaped_ints ns, shaped_ints [], _, rfl, ?_⟩
        refine ite2 (fun hne => ?_) (fun _ => ⟨_, rfl, hp2, hl2, b2⟩)
        have hns : 0 < ns.length := by
          cases ns with
          | nil => exact absurd hne (by decide)
          | cons n r => exact Nat.succ_pos _
        have hz : (0 : Int) < ((ns.map V.int).length : Int) := by rw [List.length_map]; omega
        have j0 := Int.emod_nonneg i (Int.ne_of_gt hz)
        have j1 := Int.emod_lt_of_pos i hz
        obtain ⟨z, ez⟩ : ∃ z, (ns.map V.int)[(i % ((ns.map V.int).length : Int)).toNat]? = some (V.int z) := by
          rw [List.length_map] at j0 j1 ⊢
          have hlt : (i % (ns.length : Int)).toNat < ns.length := by omega
          exact ⟨ns[(i % (ns.length : Int)).toNat], by rw [List.getElem?_map, List.getElem?_eq_getElem hlt]; rfl⟩
        exact ⟨_, rfl, p, _, 0, .ref l, rfl, rfl, SqL.of hp2, rfl, _, rfl, .inl ⟨i, rfl, _, rfl, p, _, 0, .ref l, rfl, rfl, SqL.of hp2, rfl, _, _, rfl, .inl ⟨_, SqL.of hl2, rfl⟩, _, _, rfl, rfl, hz, l, _, _, .int z, rfl, rfl, SqL.of hl2, atI_of j0 ez, _, rfl, hp2, hl2, b2⟩⟩
      · rintro σ2 H2 ⟨z, rfl, hp2, hl2, b2⟩
        -- if at < len(pen[0]) and abs(cell) >= 10 ** 18
        refine ⟨fun σ' H' => σ' = [some (.ref p), some (.int m), none, some (.int i), some (.int z), none, none] ∧ H' = H2, ?_, ?_⟩
        · refine ⟨_, rfl, _, rfl, p, _, 0, .ref l, rfl, rfl, SqL.of hp2, rfl, _, _, rfl, .inl ⟨_, SqL.of hl2, rfl⟩, _, _, rfl, rfl, _, rfl, ?_⟩
          refine ite2 (fun _ => ?_) (fun _ => ⟨rfl, rfl⟩)
          refine ⟨_, rfl, _, rfl, _, _, rfl, rfl, ⟨by decide, by decide, by decide⟩, _, _, rfl, rfl, _, rfl, ?_⟩
          refine ite2 (fun hgr => ?_) (fun _ => ⟨rfl, rfl⟩)
          have hgr' := of_decide_eq_true hgr
          refine ⟨_, rfl, _, rfl, _, _, rfl, rfl, ⟨by decide, by decide, by decide⟩, _, _, rfl, rfl, _, _, rfl, rfl, .inl ⟨by decide, by decide⟩, _, rfl, _, _, rfl, rfl, .inr ⟨_, rfl, _, _, rfl, rfl, ?_⟩⟩
          refine ⟨_, rfl, .inl ⟨_, rfl, _, rfl, _, _, rfl, rfl, ⟨hm0, hm1⟩, _, rfl, p, _, 2, 2, rfl, rfl, hp2, rfl, ?_⟩⟩
          refine ⟨_, rfl, .inl ⟨_, rfl, _, rfl, _, _, rfl, rfl, hm0, ?_⟩⟩
          have hpos : (0 : Int) ≤ 2 * ((if z < 0 then -z else z) - 10 ^ (18 : Int).toNat) + (if decide (z < 0) = true then 1 else 0) := by
            have h2 : (0 : Int) ≤ (if decide (z < 0) = true then 1 else 0) := by split <;> decide
            omega
          exact k _ _ (Int.emod_nonneg _ (Int.ne_of_gt hm0)) (Int.emod_lt_of_pos _ hm0) ⟨ns, i + 1, _, upd_same, by rw [upd_ne hlp]; exact hl2, hlp, hn, by omega, by omega, Int.ediv_nonneg hpos (Int.le_of_lt hm0)⟩ (b2.trans But.upd)
        · rintro σ3 H3 ⟨rfl, rfl⟩
          -- the two mixings
          refine ⟨fun σ' H' => ∃ x : Int, σ' = [some (.ref p), some (.int m), none, some (.int i), some (.int z), none, some (.int x)] ∧ H' = H3 ∧ 0 ≤ x ∧ x < 2147483648, ?_, ?_⟩
          · refine ⟨_, rfl, .inl ⟨_, rfl, _, _, rfl, rfl, (by show (0 : Int) < _; decide), _, rfl, _, _, rfl, rfl, .inl ⟨by decide, by decide⟩, _, _, rfl, rfl, _, _, rfl, rfl, _, _, rfl, rfl, ⟨by decide, by decide, ?_⟩, .inl ⟨_, rfl, _, _, rfl, rfl, (by show (0 : Int) < _; decide), _, rfl, rfl, Int.emod_nonneg _ (by decide), Int.lt_trans (Int.emod_lt_of_pos _ (by decide)) (by decide)⟩⟩⟩
            apply pow_ok <;> omega
          rintro σ4 H4 ⟨x, rfl, rfl, x0, x1⟩
          have hi6 : i ≤ 1000000 := by omega
          have q1 := mul_le' x0 (Int.le_of_lt x1) (show (0 : Int) ≤ 2 * i by omega) (show 2 * i ≤ 2000000 by omega)
          have q2 := mul_le' hi0 hi6 hi0 hi6
          refine ⟨fun σ' H' => ∃ y : Int, σ' = [some (.ref p), some (.int m), none, some (.int i), some (.int z), none, some (.int y)] ∧ H' = H4, ?_, ?_⟩
          · refine ⟨_, rfl, _, rfl, _, _, rfl, rfl, .inl ⟨by decide, by decide⟩, _, _, rfl, rfl, _, _, rfl, rfl, .inl ⟨by omega, by omega⟩, _, rfl, _, _, rfl, rfl, .inl ⟨by decide, by decide⟩, _, rfl, _, _, rfl, rfl, .inl ⟨by omega, by omega⟩, _, _, rfl, rfl, _, _, rfl, rfl, _, _, rfl, rfl, ⟨by decide, by decide, ?_⟩, .inl ⟨_, rfl, _, _, rfl, rfl, (by show (0 : Int) < _; decide), _, rfl, rfl⟩⟩
            rw [Int.mul_add, Int.mul_assoc _ i i]
            apply pow_ok <;> omega
          rintro σ5 H5 ⟨y, rfl, rfl⟩
          refine ⟨_, rfl, _, _, rfl, rfl, ⟨by decide, by decide⟩, .inl ⟨_, rfl, _, rfl, _, _, rfl, rfl, hm0, ?_⟩⟩
          exact k _ _ (Int.emod_nonneg _ (Int.ne_of_gt hm0)) (Int.emod_lt_of_pos _ hm0) ⟨ns, i + 1, g, hp2, hl2, hlp, hn, by omega, by omega, hg0⟩ b2
end
abbrev s_pen : Stmt := topS 29
abbrev N_pen : List Str := ["_law_script"]
theorem sc_pen : FnScope N_pen ["_law_script"] (defScope s_pen) := ⟨rfl, rfl, rfl, by decide +kernel, rfl, by decide +kernel, by decide +kernel⟩
abbrev s_pick : Stmt := topS 31
abbrev N_pick : List Str := ["_law_pen_here", "_law_some"]
theorem sc_pick : FnScope N_pick ["_law_pen_here", "_law_some"] (defScope s_pick) := ⟨rfl, rfl, rfl, by decide +kernel, rfl, by decide +kernel, by decide +kernel⟩
section
variable {P : Program} {w : World} {K : Fg} {mg : Str → Option Value} {base : Heap}
theorem ok_pen {f : Addr} {fd : FuncData} (F : FnP K "_law_pen" "_law_pen" s_pen f fd) (T : Txt K mg) : FnOk P w K mg base CX0 1 f fd ["_law_script"] (spPenL K) := by
  have zlist : mg "list" = none := T.bl (by decide +kernel)
  refine F.ok sc_pen (fun vs H Q E h => ?_) (fun cdv A outer s H vs Q E hr h => ?_)
  · obtain ⟨a, ns, rfl, _⟩ := h
    rfl
  · obtain ⟨a, ns, rfl, hS, hn, k⟩ := h
    obtain ⟨ms, em, hm⟩ := cut_ints ns none (some 63)
    refine ⟨_, PSs.nox (pss_one (ps_ret (pe_lst (pa_cons (pe_callTy call_list_of (by rfl) zlist (by decide +kernel) (pa_cons (pe_slice sl_list (pv 0) po_none (po_some pe_int)) pa_nil)) (pa_cons pe_int (pa_cons pe_int pa_nil)))))), ?_⟩
    refine ⟨_, rfl, _, rfl, a, _, rfl, hS, fun q hq => ⟨q, _, rfl, .inl (SqL.of upd_same), fun l hl => ⟨sz1000 (by show 3 ≤ 1000; decide), fun p hp => ?_⟩⟩⟩
    rw [em] at hl hp ⊢
    have s1 := same_new (o := .lst (ms.map V.int)) hq
    have s2 := same_new (o := .lst (ms.map V.int)) hl
    have s3 := same_new (o := .lst [.ref l, .int 0, .int 0]) hp
    have hl' : (upd (upd H q (.lst (ms.map V.int))) l (.lst (ms.map V.int))) l = some (.lst (ms.map V.int)) := upd_same
    exact k p l _ ((s1.trans s2).free hp) ⟨ms, 0, 0, upd_same, s3 _ _ hl', ne_of_none hl' hp, by omega, by decide, by decide, by decide⟩ ((s1.trans s2).trans s3)
theorem ok_pick {f fD : Addr} {fd fdD : FuncData} (F : FnP K "_law_pick" "_law_pick" s_pick f fd) (FD : FnP K "_law_draw" "_law_draw" s_draw fD fdD) (gD : mg "_law_draw" = some (.ref fD)) (T : Txt K mg) : FnOk P w K mg base CX0 2 f fd ["_law_pen_here", "_law_some"] (spPickL K) := by
  have zlen : mg "len" = none := T.bl (by decide +kernel)
  have G_draw : FnOk P w K mg base CX0 1 fD fdD ["_law_pen_here", "_law_many"] spDrawL := ok_draw FD T
  have b_draw : Binds K fdD ["_law_pen_here", "_law_many"] [] := FD.bindsN fun _ _ _ _ _ _ us hl => match us, hl with | [_, _], _ => rfl
  refine F.ok sc_pick (fun vs H Q E h => ?_) (fun cdv A outer s H vs Q E hr h => ?_)
  · obtain ⟨p, l, q, xs, c, rfl, _⟩ := h
    rfl
  · obtain ⟨p, l, q, xs, c, rfl, hS, hqp, hx0, hx1, hP, hc, k⟩ := h
    refine ⟨_, PSs.nox (pss_one (ps_ret (pe_ix ix_list (pv 1) (pe_call G_draw (hr.mono (by decide)) rfl gD FD.kp b_draw .nil pass0 (pa_cons (pv 0) (pa_cons (pe_callB call_len (by rfl) zlen (by decide +kernel) (pa_cons (pv 1) pa_nil)) pa_nil))) (fun _ _ => rfl)))), ?_⟩
    refine ⟨_, rfl, _, rfl, _, rfl, _, _, rfl, .inl ⟨xs, hS, rfl⟩, p, l, (xs.length : Int), c, rfl, by omega, by omega, hP, hc, fun r H' h0 h1 hP' hB => ?_⟩
    have hlt : r.toNat < xs.length := by omega
    exact ⟨q, xs, r, _, rfl, rfl, hB.seq hqp hS, atI_of h0 (List.getElem?_eq_getElem hlt), k _ H' (List.getElem_mem hlt) hP' hB⟩
end
end K08
namespace K08
open PySem PySem.Spec PyProof.Rows L2 He Tw
/-! ### the program -/
def rankOk : V → Bool
  | .int i => decide (-beyond < i) && decide (i < beyond)
  | _ => false
def textOk (z : Str) : Bool := decide (z.length ≤ 8) && z.cps.toList.all fun c => decide (c ∈ letters.cps.toList)
def nameOk : V → Bool
  | .str z => textOk z
  | _ => false
/-- an item of rank i and name z -/
def It (K : Fg) (H : Hp) (a : Addr) (i : Int) (z : Str) : Prop := ∃ dx, H a = some (.ins (ga K "Item") dx [("rank", .int i), ("name", .str z)])
theorem It.same {K : Fg} {H H' : Hp} {a : Addr} {i : Int} {z : Str} (e : Same H H') (h : It K H a i z) : It K H' a i z := by
  obtain ⟨dx, h⟩ := h
  exact ⟨dx, e _ _ h⟩
def spIni (C : Addr) (f : Str) : Sp := fun vs H Q _ => ∃ (a : Addr) (v : V), vs = [.ref a, v] ∧ H a = some (exo a C none) ∧ ∀ (d : Addr) (H' : Hp), H d = none → d ≠ a → H' a = some (exo a C (some d)) → H' d = some (exd d [(f, v)]) → But a H H' → Q .non H'
def spNum : Sp := fun vs H Q _ => ∃ (x : V) (T : String), vs = [x] ∧ Bv H x T ∧ Q (.bl (isI x)) H
def spRank : Sp := fun vs H Q _ => ∃ (x : V) (T : String), vs = [x] ∧ Bv H x T ∧ Q (.bl (rankOk x)) H
def spLet : Sp := fun vs H Q _ => ∃ (x : V) (T : String), vs = [x] ∧ Bv H x T ∧ (∀ z, x = .str z → z.length ≤ 1000) ∧ ∀ H', Same H H' → Q (.bl (nameOk x)) H'
section
variable {P : Program} {w : World} {K : Fg} {mg : Str → Option Value} {base : Heap}
abbrev s_err (i : Nat) : Stmt := inClass (topS i) 0
theorem sc_BadItem : FnScope ["self", "part"] ["self", "part"] (defScope (s_err 5)) := ⟨rfl, rfl, rfl, by decide +kernel, rfl, by decide +kernel, by decide +kernel⟩
theorem ok_BadItem {f : Addr} {fd : FuncData} (F : FnP K "__init__" "BadItem.__init__" (s_err 5) f fd) (T : Txt K mg) : FnOk P w K mg base CX0 1 f fd ["self", "part"] (spIni (ga K "BadItem") "part") := by
  have m : (("BadItem", 5, "part") : Str × Nat × Str) ∈ errs := by decide +kernel
  refine F.ok sc_BadItem (fun vs H Q E h => ?_) (fun cdv A outer s H vs Q E hr h => ?_)
  · obtain ⟨a, v, rfl, _⟩ := h
    rfl
  · obtain ⟨a, v, rfl, ha, k⟩ := h
    refine ⟨_, PSs.nox (pss_one (ps_ost (pv 0) (pv 1))), ?_⟩
    refine ⟨_, rfl, _, rfl, a, _, rfl, (T.xc m).ox, T.no m, .inl ⟨ha, fun d hd hda => k d _ hd hda upd_same (by rw [upd_ne hda]; exact upd_same) fun b o hb hba => ?_⟩⟩
    rw [upd_ne hba, upd_ne (ne_of_none hb hd)]
    exact hb
theorem sc_BadPlace : FnScope ["self", "at"] ["self", "at"] (defScope (s_err 6)) := ⟨rfl, rfl, rfl, by decide +kernel, rfl, by decide +kernel, by decide +kernel⟩
theorem ok_BadPlace {f : Addr} {fd : FuncData} (F : FnP K "__init__" "BadPlace.__init__" (s_err 6) f fd) (T : Txt K mg) : FnOk P w K mg base CX0 1 f fd ["self", "at"] (spIni (ga K "BadPlace") "at") := by
  have m : (("BadPlace", 6, "at") : Str × Nat × Str) ∈ errs := by decide +kernel
  refine F.ok sc_BadPlace (fun vs H Q E h => ?_) (fun cdv A outer s H vs Q E hr h => ?_)
  · obtain ⟨a, v, rfl, _⟩ := h
    rfl
  · obtain ⟨a, v, rfl, ha, k⟩ := h
    refine ⟨_, PSs.nox (pss_one (ps_ost (pv 0) (pv 1))), ?_⟩
    refine ⟨_, rfl, _, rfl, a, _, rfl, (T.xc m).ox, T.no m, .inl ⟨ha, fun d hd hda => k d _ hd hda upd_same (by rw [upd_ne hda]; exact upd_same) fun b o hb hba => ?_⟩⟩
    rw [upd_ne hba, upd_ne (ne_of_none hb hd)]
    exact hb
theorem sc_Disordered : FnScope ["self", "at"] ["self", "at"] (defScope (s_err 7)) := ⟨rfl, rfl, rfl, by decide +kernel, rfl, by decide +kernel, by decide +kernel⟩
theorem ok_Disordered {f : Addr} {fd : FuncData} (F : FnP K "__init__" "Disordered.__init__" (s_err 7) f fd) (T : Txt K mg) : FnOk P w K mg base CX0 1 f fd ["self", "at"] (spIni (ga K "Disordered") "at") := by
  have m : (("Disordered", 7, "at") : Str × Nat × Str) ∈ errs := by decide +kernel
  refine F.ok sc_Disordered (fun vs H Q E h => ?_) (fun cdv A outer s H vs Q E hr h => ?_)
  · obtain ⟨a, v, rfl, _⟩ := h
    rfl
  · obtain ⟨a, v, rfl, ha, k⟩ := h
    refine ⟨_, PSs.nox (pss_one (ps_ost (pv 0) (pv 1))), ?_⟩
    refine ⟨_, rfl, _, rfl, a, _, rfl, (T.xc m).ox, T.no m, .inl ⟨ha, fun d hd hda => k d _ hd hda upd_same (by rw [upd_ne hda]; exact upd_same) fun b o hb hba => ?_⟩⟩
    rw [upd_ne hba, upd_ne (ne_of_none hb hd)]
    exact hb
theorem sc_TooMany : FnScope ["self", "most"] ["self", "most"] (defScope (s_err 8)) := ⟨rfl, rfl, rfl, by decide +kernel, rfl, by decide +kernel, by decide +kernel⟩
theorem ok_TooMany {f : Addr} {fd : FuncData} (F : FnP K "__init__" "TooMany.__init__" (s_err 8) f fd) (T : Txt K mg) : FnOk P w K mg base CX0 1 f fd ["self", "most"] (spIni (ga K "TooMany") "most") := by
  have m : (("TooMany", 8, "most") : Str × Nat × Str) ∈ errs := by decide +kernel
  refine F.ok sc_TooMany (fun vs H Q E h => ?_) (fun cdv A outer s H vs Q E hr h => ?_)
  · obtain ⟨a, v, rfl, _⟩ := h
    rfl
  · obtain ⟨a, v, rfl, ha, k⟩ := h
    refine ⟨_, PSs.nox (pss_one (ps_ost (pv 0) (pv 1))), ?_⟩
    refine ⟨_, rfl, _, rfl, a, _, rfl, (T.xc m).ox, T.no m, .inl ⟨ha, fun d hd hda => k d _ hd hda upd_same (by rw [upd_ne hda]; exact upd_same) fun b o hb hba => ?_⟩⟩
    rw [upd_ne hba, upd_ne (ne_of_none hb hd)]
    exact hb
abbrev s_num : Stmt := topS 15
theorem sc_num : FnScope ["value"] ["value"] (defScope s_num) := ⟨rfl, rfl, rfl, by decide +kernel, rfl, by decide +kernel, by decide +kernel⟩
theorem ok_num {f : Addr} {fd : FuncData} (F : FnP K "is_number" "is_number" s_num f fd) (T : Txt K mg) : FnOk P w K mg base CX0 1 f fd ["value"] spNum := by
  have zisi : mg "isinstance" = none := T.bl (by decide +kernel)
  have zint : mg "int" = none := T.bl (by decide +kernel)
  have zbool : mg "bool" = none := T.bl (by decide +kernel)
  refine F.ok sc_num (fun vs H Q E h => ?_) (fun cdv A outer s H vs Q E hr h => ?_)
  · obtain ⟨x, t, rfl, _⟩ := h
    rfl
  · obtain ⟨x, t, rfl, b, k⟩ := h
    refine ⟨_, PSs.nox (pss_one (ps_ret (pe_and (pe_callB call_isA (by rfl) zisi (by decide +kernel) (pa_cons (pv 0) (pa_cons (pe_bltn (v := .ty "int") (by rfl) zint (by decide +kernel) rfl) pa_nil))) (pe_one (pe_not (pe_callB call_isA (by rfl) zisi (by decide +kernel) (pa_cons (pv 0) (pa_cons (pe_bltn (v := .ty "bool") (by rfl) zbool (by decide +kernel) rfl) pa_nil)))))))), ?_⟩
    obtain ⟨k1, k2, k3⟩ := b.kits (K := K)
    refine ⟨_, rfl, x, .ty "int", _, _, _, rfl, .ty "int", .inl b.ty, k3, _, rfl, ?_⟩
    cases x with
    | bl y => exact ⟨_, rfl, .bl y, .ty "bool", _, _, _, rfl, .ty "bool", .inl b.ty, k2, _, rfl, k⟩
    | int i => exact ⟨_, rfl, .int i, .ty "bool", _, _, _, rfl, .ty "bool", .inl b.ty, k2, _, rfl, k⟩
    | _ => exact k
abbrev s_rnk : Stmt := topS 16
theorem sc_rnk : FnScope ["value"] ["value"] (defScope s_rnk) := ⟨rfl, rfl, rfl, by decide +kernel, rfl, by decide +kernel, by decide +kernel⟩
theorem ok_rnk {f fN : Addr} {fd fdN : FuncData} (F : FnP K "is_rank" "is_rank" s_rnk f fd) (FN : FnP K "is_number" "is_number" s_num fN fdN) (gN : mg "is_number" = some (.ref fN)) (T : Txt K mg) : FnOk P w K mg base CX0 2 f fd ["value"] spRank := by
  obtain ⟨tb, gB⟩ := T.beyond
  have G_num : FnOk P w K mg base CX0 1 fN fdN ["value"] spNum := ok_num FN T
  have b_num : Binds K fdN ["value"] [] := FN.bindsN fun _ _ _ _ _ _ us hl => match us, hl with | [_], _ => rfl
  refine F.ok sc_rnk (fun vs H Q E h => ?_) (fun cdv A outer s H vs Q E hr h => ?_)
  · obtain ⟨x, t, rfl, _⟩ := h
    rfl
  · obtain ⟨x, t, rfl, b, k⟩ := h
    refine ⟨_, PSs.nox (pss_one (ps_ret (pe_and (pe_call G_num (hr.mono (by decide)) rfl gN FN.kp b_num .nil pass0 (pa_cons (pv 0) pa_nil)) (pe_one (pe_chain op_lt op_lt (pe_un un_neg (pe_glob (v := .int beyond) rfl gB ⟨_, rfl⟩)) (pv 0) (pe_glob (v := .int beyond) rfl gB ⟨_, rfl⟩)))))), ?_⟩
    refine ⟨_, rfl, x, t, rfl, b, _, rfl, ?_⟩
    cases x with
    | int i =>
      refine ⟨_, rfl, _, rfl, _, _, rfl, rfl, _, rfl, ?_⟩
      have e : rankOk (.int i) = (decide (-beyond < i) && decide (i < beyond)) := rfl
      rw [e] at k
      by_cases h1 : -beyond < i
      · rw [decide_eq_true h1, Bool.true_and] at k
        rw [if_pos (decide_eq_true h1)]
        exact ⟨_, _, rfl, rfl, k⟩
      · rw [decide_eq_false h1, Bool.false_and] at k
        rw [decide_eq_false h1]
        exact k
    | _ => exact k
end
end K08
namespace K08
open PySem PySem.Spec PyProof.Rows L2 He Tw
abbrev s_let : Stmt := topS 12
abbrev N_let : List Str := ["value", "sign"]
theorem sc_let : FnScope N_let ["value"] (defScope s_let) := ⟨rfl, rfl, rfl, by decide +kernel, rfl, by decide +kernel, by decide +kernel⟩
def inL (c : Nat) : Bool := decide (c ∈ letters.cps.toList)
theorem all_bl (l : List Nat) : ((l.map inL).all id) = l.all inL := by
  induction l with
  | nil => rfl
  | cons c r ih => rw [List.map_cons, List.all_cons, List.all_cons, ih]; rfl
section
variable {P : Program} {w : World} {K : Fg} {mg : Str → Option Value} {base : Heap}
theorem ok_let {f : Addr} {fd : FuncData} (F : FnP K "is_lettered" "is_lettered" s_let f fd) (T : Txt K mg) : FnOk P w K mg base CX0 1 f fd ["value"] spLet := by
  have zisi : mg "isinstance" = none := T.bl (by decide +kernel)
  have zstr : mg "str" = none := T.bl (by decide +kernel)
  have zlen : mg "len" = none := T.bl (by decide +kernel)
  have zall : mg "all" = none := T.bl (by decide +kernel)
  obtain ⟨tL, gL⟩ := T.longest
  obtain ⟨tS, gS⟩ := T.letters
  refine F.ok sc_let (fun vs H Q E h => ?_) (fun cdv A outer s H vs Q E hr h => ?_)
  · obtain ⟨x, t, rfl, _⟩ := h
    rfl
  · obtain ⟨x, t, rfl, b, hz, k⟩ := h
    refine ⟨_, PSs.nox (pss_cons (ps_if (PW.pt (pw_or (pt_not (pt_val (pe_callB call_isA (by rfl) zisi (by decide +kernel) (pa_cons (pv 0) (pa_cons (pe_bltn (v := .ty "str") (by rfl) zstr (by decide +kernel) rfl) pa_nil))))) (pw_or1 (pt_cmpR op_gt (pe_callB call_len (by rfl) zlen (by decide +kernel) (pa_cons (pv 0) pa_nil)) (pe_glob (v := .int 8) rfl gL ⟨_, rfl⟩) (nomark _))))) (pss_one (ps_ret pe_bl)) pss_nil)
    (pss_one (ps_ret (pe_callB (cr_all rfl) (by rfl) zall (by decide +kernel) (pa_cons (pe_lc (own := [("sign", 1)]) (g := gName 1) (tt := tYes) (by rfl) sc_let.nd (pi_str (pv 0)) (blkOk_by (own := [("sign", 1)]) (N := N_let) (sc := defScope s_let) (by decide +kernel)) (fun _ _ _ _ _ => (pg_name (i := 1) sc_let.nd rfl (Or.inl rfl))) (fun _ _ _ _ _ => pts_nil) (fun _ _ _ _ _ => (pe_cmpR op_in_sign (pv 1) (pe_glob (v := .str letters) rfl gS ⟨_, rfl⟩) rfl))) pa_nil))))), ?_⟩
    obtain ⟨k1, k2, k3⟩ := b.kits (K := K)
    refine ⟨_, rfl, x, .ty "str", _, _, _, rfl, .ty "str", .inl b.ty, k1, _, rfl, ?_⟩
    cases x with
    | str z =>
      have hl := hz z rfl
      refine ⟨_, rfl, _, _, rfl, ⟨Nat.le_trans hl (by decide), rfl⟩, _, _, rfl, rfl, _, rfl, ?_⟩
      refine ite2 (fun h => ?_) (fun h => ?_)
      · have h2 : ¬ z.length ≤ 8 := by
          have := of_decide_eq_true h
          omega
        have e : nameOk (.str z) = false := by
          show (decide (z.length ≤ 8) && _) = false
          rw [decide_eq_false h2, Bool.false_and]
        rw [e] at k
        exact k H fun _ _ q => q
      · have h2 : z.length ≤ 8 := by
          have h3 : ¬ (8 : Int) < (z.length : Int) := fun y => h (decide_eq_true y)
          omega
        have e : nameOk (.str z) = z.cps.toList.all inL := by
          show (decide (z.length ≤ 8) && _) = _
          rw [decide_eq_true h2, Bool.true_and]
          rfl
        rw [e] at k
        refine ⟨_, rfl, z, rfl, fun D hD => lcStr (fun i H' => Same H H' ∧ H' D = some (.lst (((z.cps.toList.take i).map inL).map V.bl))) ⟨same_new hD, upd_same⟩ ?_ ?_⟩
        · rintro i c H' hc ⟨sD, gD⟩
          refine ⟨rfl, _, rfl, c, letters, rfl, rfl, _, gD, ?_, ?_, ?_⟩
          · rw [List.length_map, List.length_map]
            exact Nat.lt_of_le_of_lt (List.length_take_le' _ _) (Nat.lt_of_le_of_lt (show z.cps.toList.length ≤ 8 from h2) (by decide))
          · exact fun b o hb => by
              rw [upd_ne (ne_of_none hb hD)]
              exact sD b o hb
          · have hc2 : z.cps.toList[i]? = some c := by rw [Array.getElem?_toList]; exact hc
            rw [upd_same, List.take_add_one, hc2, List.map_append, List.map_append]
            rfl
        · rintro H' ⟨sD, gD⟩
          have e2 : z.cps.toList.take z.cps.size = z.cps.toList := List.take_of_length_le (Nat.le_of_eq (by simp))
          rw [e2] at gD
          refine ⟨D, _, rfl, SqL.of gD, ?_⟩
          rw [all_bl]
          exact k H' sD
    | _ => exact k H fun _ _ q => q
end
/-- what Item.__init__ does: the fields stand, or BadItem goes out with the part -/
def spItem (K : Fg) : Sp := fun vs H Q E => ∃ (a dx : Addr) (x y : V) (t u : String), vs = [.ref a, x, y] ∧ H a = some (.ins (ga K "Item") dx []) ∧ Bv H x t ∧ Bv H y u ∧ (∀ z, y = .str z → z.length ≤ 1000) ∧
  (rankOk x = true → nameOk y = true → ∀ H', But a H H' → H' a = some (.ins (ga K "Item") dx [("rank", x), ("name", y)]) → Q .non H') ∧
  (rankOk x = false ∨ nameOk y = false → ∀ (d : Addr) (H' : Hp), Same H H' → H' d = some (.xd [("part", .str (if rankOk x = true then "name" else "rank"))]) → E (.ref (ga K "BadItem")) (some d) H')
theorem bad_out {H : Hp} {C : Addr} {z : Str} {Q : XK} {E : XK} (k : ∀ (d : Addr) (H' : Hp), Same H H' → H' d = some (.xd [("part", .str z)]) → Q (.ref C) (some d) H') :
    ([V.str z] : List V).length ≤ 1000 ∧ ∀ a, H a = none → spIni C "part" (.ref a :: (([V.str z] : List V) ++ [])) (upd H a (exo a C none)) (fun v H2 => v = .non ∧ ∃ (d : Addr) (fs : List (Str × V)), H2 a = some (exo a C (some d)) ∧ H2 d = some (exd d fs) ∧ H d = none ∧ Q (.ref C) (some d) (upd (del H2 a) d (.xd fs))) E := by
  refine ⟨(by show 1 ≤ 1000; decide), fun a ha => ⟨a, .str z, rfl, upd_same, fun d H' hd hda e1 e2 e3 => ?_⟩⟩
  rw [upd_ne hda] at hd
  refine ⟨rfl, d, _, e1, e2, hd, k d _ (fun b o hb => ?_) upd_same⟩
  have hba : b ≠ a := ne_of_none hb ha
  rw [upd_ne (ne_of_none hb hd), del_ne hba]
  exact e3 b o (by rw [upd_ne hba]; exact hb) hba
abbrev s_item : Stmt := inClass (topS 17) 0
theorem sc_item : FnScope ["self", "rank", "name"] ["self", "rank", "name"] (defScope s_item) := ⟨rfl, rfl, rfl, by decide +kernel, rfl, by decide +kernel, by decide +kernel⟩
abbrev FnI (K : Fg) (f : Addr) (fd : FuncData) : Prop := FunD K "__init__" "Item.__init__" (defArgs s_item) (defBody s_item) (defScope s_item) [.str ""] [] f fd
section
variable {P : Program} {w : World} {K : Fg} {mg : Str → Option Value} {base : Heap}
theorem ok_item {f fR fL fB : Addr} {fd fdR fdL fdB fdN : FuncData} {fN : Addr} (F : FnI K f fd) (FR : FnP K "is_rank" "is_rank" s_rnk fR fdR) (gR : mg "is_rank" = some (.ref fR)) (FN : FnP K "is_number" "is_number" s_num fN fdN) (gN : mg "is_number" = some (.ref fN))
    (FL : FnP K "is_lettered" "is_lettered" s_let fL fdL) (gL : mg "is_lettered" = some (.ref fL)) (FB : FnP K "__init__" "BadItem.__init__" (s_err 5) (ma K (ga K "BadItem") "__init__") fdB) (T : Txt K mg) : FnOk P w K mg base (L2.CX P w) 3 f fd ["self", "rank", "name"] (spItem K) := by
  have gB : mg "BadItem" = some (.ref (ga K "BadItem")) := T.cl (by decide +kernel)
  have G_rnk : FnOk P w K mg base CX0 2 fR fdR ["value"] spRank := ok_rnk FR FN gN T
  have G_let : FnOk P w K mg base CX0 1 fL fdL ["value"] spLet := ok_let FL T
  have G_bad : FnOk P w K mg base CX0 1 _ fdB ["self", "part"] (spIni (ga K "BadItem") "part") := ok_BadItem FB T
  have b_rnk : Binds K fdR ["value"] [] := FR.bindsN fun _ _ _ _ _ _ us hl => match us, hl with | [_], _ => rfl
  have b_let : Binds K fdL ["value"] [] := FL.bindsN fun _ _ _ _ _ _ us hl => match us, hl with | [_], _ => rfl
  have b_bad : Binds K fdB ["self", "part"] [] := FB.bindsN fun _ _ _ _ _ _ us hl => match us, hl with | [_, _], _ => rfl
  have mB : (("BadItem", 5, "part") : Str × Nat × Str) ∈ errs := by decide +kernel
  obtain ⟨iB, tB⟩ := T.ini mB
  refine F.ok sc_item (fun vs H Q E h => ?_) (fun cdv A outer s H vs Q E hr h => ?_)
  · obtain ⟨a, dx, x, y, t, u, rfl, _⟩ := h
    rfl
  · obtain ⟨a, dx, x, y, t, u, rfl, ha, bx, bY, hz, kn, kx⟩ := h
    refine ⟨_, (pss_cons (ps_if (pt_not (pt_val (pe_call G_rnk (hr.mono (by decide)) rfl gR FR.kp b_rnk .nil pass0 (pa_cons (pv 1) pa_nil)))) (pss_one (ps_raise rfl (takes_of rfl rfl rfl rfl) (pmk_oex (T.xc mB).ox iB tB G_bad (hr.mono (by decide)) b_bad .nil pass0 rfl gB (pa_cons pe_str pa_nil)))) pss_nil)
    (pss_cons (ps_if (pt_not (pt_val (pe_call G_let (hr.mono (by decide)) rfl gL FL.kp b_let .nil pass0 (pa_cons (pv 2) pa_nil)))) (pss_one (ps_raise rfl (takes_of rfl rfl rfl rfl) (pmk_oex (T.xc mB).ox iB tB G_bad (hr.mono (by decide)) b_bad .nil pass0 rfl gB (pa_cons pe_str pa_nil)))) pss_nil)
    (pss_cons (ps_fld (pv 0) (pv 1) rfl)
    (pss_one (ps_fld (pv 0) (pv 2) rfl))))), ?_⟩
    refine ⟨_, rfl, x, t, rfl, bx, _, rfl, ?_⟩
    cases hx : rankOk x with
    | false =>
      rw [hx] at kx
      exact bad_out (kx (.inl rfl))
    | true =>
      rw [hx] at kx kn
      refine ⟨_, rfl, y, u, rfl, bY, hz, fun H1 s1 => ⟨_, rfl, ?_⟩⟩
      cases hy : nameOk y with
      | false =>
        rw [hy] at kx
        exact bad_out fun d H' s2 hd => kx (.inr rfl) d H' (s1.trans s2) hd
      | true =>
        rw [hy] at kn
        refine ⟨_, rfl, _, rfl, a, _, dx, _, rfl, s1 _ _ ha, T.cls, T.na (by decide +kernel), (by show 0 < 1000; decide), ?_⟩
        refine ⟨_, rfl, _, rfl, a, _, dx, _, rfl, upd_same, T.cls, T.na (by decide +kernel), (by show 1 < 1000; decide), ?_⟩
        exact kn rfl rfl _ (((But.of s1).trans But.upd).trans But.upd) upd_same
end
end K08
namespace K08
open PySem PySem.Spec PyProof.Rows L2 He Tw
theorem It.ty {K : Fg} {mg : Str → Option Value} {H : Hp} (T : Txt K mg) {a : Addr} {i : Int} {z : Str} (h : It K H a i z) : TyX K H (.ref a) (.ref (ga K "Item")) := by
  obtain ⟨dx, h⟩ := h
  exact .base (.ins h T.cls (T.ob (by decide +kernel)).2 T.xo.hn T.xo.ht (T.ob (by decide +kernel)).1)
theorem bv_kind {H : Hp} {x : V} {T : String} (h : Bv H x T) : T ∈ kinds := by
  cases h <;> decide
/-- what may stand for an item: an item, a rank, or anything plain that is neither -/
inductive Vv (K : Fg) (H : Hp) : V → Option (Int × Str) → Prop where
  | item {a : Addr} {i : Int} {z : Str} (h : It K H a i z) : Vv K H (.ref a) (some (i, z))
  | int {i : Int} (h : rankOk (.int i) = true) : Vv K H (.int i) (some (i, ""))
  | bad {x : V} {t : String} (h : Bv H x t) (b : rankOk x = false) : Vv K H x none
theorem Vv.same {K : Fg} {H H' : Hp} {x : V} {o : Option (Int × Str)} (e : Same H H') (h : Vv K H x o) : Vv K H' x o := by
  cases h with
  | item h => exact .item (h.same e)
  | int h => exact .int h
  | bad h b => exact .bad (h.same e) b
/-- references to items of these ranks and names -/
def Its (K : Fg) (H : Hp) (ys : List V) (ps : List (Int × Str)) : Prop := Paired (fun y p => ∃ a, y = V.ref a ∧ It K H a p.1 p.2) ys ps
theorem Its.same {K : Fg} {H H' : Hp} (e : Same H H') : ∀ {ys : List V} {ps : List (Int × Str)}, Its K H ys ps → Its K H' ys ps
  | _, _, .nil => .nil
  | _, _, .cons ⟨a, h1, h2⟩ t => .cons ⟨a, h1, h2.same e⟩ (Its.same e t)
theorem Its.snoc {K : Fg} {H : Hp} : ∀ {ys : List V} {ps : List (Int × Str)} {a : Addr} {p : Int × Str}, Its K H ys ps → It K H a p.1 p.2 → Its K H (ys ++ [.ref a]) (ps ++ [p])
  | _, _, _, _, .nil, h => .cons ⟨_, rfl, h⟩ .nil
  | _, _, _, _, .cons x t, h => .cons x (Its.snoc t h)
/-- a row with these items -/
def RowAt (K : Fg) (H : Hp) (a : Addr) (xs : List V) : Prop := ∃ dx t, H a = some (.ins (ga K "Row") dx [("state", .ref t)]) ∧ H t = some (.tup xs)
/-- what a row can be made of -/
def Seq (K : Fg) (H : Hp) (q : Addr) (xs : List V) : Prop := SqL K H q xs ∨ SqT K H q xs ∨ RowAt K H q xs
def spAs (K : Fg) : Sp := fun vs H Q E => ∃ (q : Addr) (xs : List V) (os : List (Option (Int × Str))), vs = [.ref q] ∧ Seq K H q xs ∧ xs.length ≤ 900 ∧ os.length = xs.length ∧ (∀ (i : Nat) (x : V), xs[i]? = some x → ∃ o : Option (Int × Str), os[i]? = some o ∧ Vv K H x o) ∧
  (∀ (ps : List (Int × Str)) (l : Addr) (H' : Hp) (ys : List V), os = ps.map some → H l = none → Same H H' → H' l = some (.lst ys) → Its K H' ys ps → Q (.ref l) H') ∧
  (∀ (n : Nat) (ps : List (Int × Str)) (d : Addr) (H' : Hp), ps.length = n → (∀ (m : Nat) (p : Int × Str), ps[m]? = some p → os[m]? = some (some p)) → os[n]? = some none → Same H H' → H' d = some (.xd [("part", .int (n : Nat))]) → E (.ref (ga K "BadItem")) (some d) H')
theorem err_out {H : Hp} {C : Addr} {f : Str} {v : V} {Q : XK} {E : XK} (k : ∀ (d : Addr) (H' : Hp), Same H H' → H' d = some (.xd [(f, v)]) → Q (.ref C) (some d) H') :
    ([v] : List V).length ≤ 1000 ∧ ∀ a, H a = none → spIni C f (.ref a :: (([v] : List V) ++ [])) (upd H a (exo a C none)) (fun u H2 => u = .non ∧ ∃ (d : Addr) (fs : List (Str × V)), H2 a = some (exo a C (some d)) ∧ H2 d = some (exd d fs) ∧ H d = none ∧ Q (.ref C) (some d) (upd (del H2 a) d (.xd fs))) E := by
  refine ⟨(by show 1 ≤ 1000; decide), fun a ha => ⟨a, v, rfl, upd_same, fun d H' hd hda e1 e2 e3 => ?_⟩⟩
  rw [upd_ne hda] at hd
  refine ⟨rfl, d, _, e1, e2, hd, k d _ (fun b o hb => ?_) upd_same⟩
  have hba : b ≠ a := ne_of_none hb ha
  rw [upd_ne (ne_of_none hb hd), del_ne hba]
  exact e3 b o (by rw [upd_ne hba]; exact hb) hba
abbrev s_iter : Stmt := inClass (topS 25) 4
theorem sc_iter : FnScope ["self"] ["self"] (defScope s_iter) := ⟨rfl, rfl, rfl, by decide +kernel, rfl, by decide +kernel, by decide +kernel⟩
section
variable {P : Program} {w : World} {K : Fg} {mg : Str → Option Value} {base : Heap}
theorem ok_iter {f : Addr} {fd : FuncData} (F : FnP K "__iter__" "Row.__iter__" s_iter f fd) (T : Txt K mg) : FnN P w K mg base CX0 1 f fd ["self"] (spIter (ga K "Row") "state") := by
  have zit : mg "iter" = none := T.bl (by decide +kernel)
  refine F.okN sc_iter (fun n vs H Q E h => ?_) (fun cdv A outer s H vs Q E hr h => ?_)
  · obtain ⟨a, dx, t, fs, zs, rfl, _⟩ := h
    rfl
  · obtain ⟨a, dx, t, fs, zs, rfl, ha, hl, ht, k⟩ := h
    refine ⟨_, (pss_one (ps_ret (pe_callB call_iterT (by rfl) zit (by decide +kernel) (pa_cons (pe_fld (pv 0) rfl) pa_nil)))), ?_⟩
    exact ⟨_, rfl, a, _, dx, _, _, rfl, ha, T.clsR, T.naR, hl, t, zs, rfl, SqT.of ht, fun it H' h0 hn sm e => k it H' h0 hn sm e⟩
abbrev s_as : Stmt := topS 19
abbrev N_as : List Str := ["values", "found", "k", "value"]
theorem sc_as : FnScope N_as ["values"] (defScope s_as) := ⟨rfl, rfl, rfl, by decide +kernel, rfl, by decide +kernel, by decide +kernel⟩
/-- the item's class, its def, all ways it is called -/
structure Itm (P : Program) (w : World) (K : Fg) (mg : Str → Option Value) (base : Heap) (fd : FuncData) (d2 : List Value) : Prop where
  ok : FnOk P w K mg base (L2.CX P w) 3 (ma K (ga K "Item") "__init__") fd ["self", "rank", "name"] (spItem K)
  b : Binds K fd ["self", "rank", "name"] []
  r2 : Vals [.str ""] d2
  b2 : Binds K fd ["self", "rank", "name"] d2
/-- the row's __iter__ -/
structure Wlk (P : Program) (w : World) (K : Fg) (mg : Str → Option Value) (base : Heap) (fd : FuncData) : Prop where
  ok : FnN P w K mg base CX0 1 (ma K (ga K "Row") "__iter__") fd ["self"] (spIter (ga K "Row") "state")
  b : Binds K fd ["self"] []
theorem seq_same {K : Fg} {H H' : Hp} {q : Addr} {xs : List V} (e : Same H H') (h : Seq K H q xs) : Seq K H' q xs := by
  rcases h with h | h | ⟨dx, t, h1, h2⟩
  · exact .inl (e.seq h)
  · exact .inr (.inl (sqT_same e h))
  · exact .inr (.inr ⟨dx, t, e _ _ h1, e _ _ h2⟩)
/-- an iterator that is there -/
def iAt (J : L2.It) : TI := fun _ H R => R J H
theorem enumA_for {K : Fg} {H H1 : Hp} {ta : TA} {g : TG} {tb : TS} {D : Ends} {σ : L2.St} {q : Addr} {xs : List V} (ht : ∀ R : List V → Hp → Prop, R [.ref q] H1 → ta σ H1 R) (s1 : Same H H1) (hS : Seq K H q xs)
    (h : ∀ (G : Hp → List V → Prop) (H2 : Hp), Same H1 H2 → (∀ H', Same H H' → G H' xs) → tFor (iAt (IteG G)) g tb D σ H2) : tFor (iEnumA K (ga K "Row") "state" ta) g tb D σ H1 := by
  have rf : Same H1 H1 := fun _ _ e => e
  refine ht _ ?_
  rcases hS with g | g | ⟨dx, t, g1, g2⟩
  · exact ⟨q, rfl, .inl ⟨⟨xs, s1.seq g⟩, h _ _ rf fun H' e => e.seq g⟩⟩
  · exact ⟨q, rfl, .inr (.inl ⟨⟨xs, sqT_same s1 g⟩, h _ _ rf fun H' e => sqT_same e g⟩)⟩
  · exact ⟨q, rfl, .inr (.inr ⟨dx, t, _, xs, s1 _ _ g1, rfl, s1 _ _ g2, fun H2 s2 => h _ _ s2 fun H' e => SqT.of (e _ _ g2)⟩)⟩
theorem same_but {H H1 H2 : Hp} {a : Addr} (s : Same H H1) (b : But a H1 H2) (h : H a = none) : Same H H2 := fun c o e => b c o (s c o e) (ne_of_none e h)
theorem same_made {H : Hp} {a dx : Addr} {o u : HO} (hd : H dx = none) (ha : H a = none) (hda : dx ≠ a) : Same H (upd (upd H dx o) a u) := (same_new hd).trans (same_new (by rw [upd_ne hda.symm]; exact ha))
theorem item_mk {K : Fg} {H : Hp} {i : Int} {z : Str} {R : VK} {E : XK} {x dx : Addr} (hx : H x = none) (hd : H dx = none) (hne : dx ≠ x) (hi : rankOk (.int i) = true) (tz : nameOk (.str z) = true) (lz : z.length ≤ 1000) (k : ∀ H' : Hp, It K H' x i z → Same H H' → R .non H') :
    spItem K [.ref x, .int i, .str z] (upd (upd H dx (.own x)) x (.ins (ga K "Item") dx [])) R E := by
  refine ⟨x, dx, .int i, .str z, "int", "str", rfl, upd_same, .int i, .str z, fun y e => ?_, fun _ _ H' b e => k H' ⟨dx, e⟩ (same_but (same_made hd hx hne) b hx), fun h => ?_⟩
  · cases e
    exact lz
  · rw [hi, tz] at h
    rcases h with h | h <;> cases h
theorem it_upd {K : Fg} {H : Hp} {l a : Addr} {us : List V} {o : HO} {i : Int} {z : Str} (hl : H l = some (.lst us)) (h : It K H a i z) : It K (upd H l o) a i z := by
  obtain ⟨dx, h⟩ := h
  refine ⟨dx, ?_⟩
  rw [upd_ne (fun e => by
    rw [e, hl] at h
    cases h)]
  exact h
theorem its_upd {K : Fg} {H : Hp} {l : Addr} {us : List V} {o : HO} (hl : H l = some (.lst us)) : ∀ {ys : List V} {ps : List (Int × Str)}, Its K H ys ps → Its K (upd H l o) ys ps
  | _, _, .nil => .nil
  | _, _, .cons ⟨a, h1, h2⟩ t => .cons ⟨a, h1, it_upd hl h2⟩ (its_upd hl t)
theorem same_upd {H H' : Hp} {l : Addr} {o : HO} (s : Same H H') (h : H l = none) : Same H (upd H' l o) := fun b u e => by
  rw [upd_ne (ne_of_none e h)]
  exact s b u e
theorem ok_as {f fR fN : Addr} {fd fdR fdN fdB fdI fdW : FuncData} {d2 : List Value} (F : FnP K "as_items" "as_items" s_as f fd) (FR : FnP K "is_rank" "is_rank" s_rnk fR fdR) (gR : mg "is_rank" = some (.ref fR)) (FN : FnP K "is_number" "is_number" s_num fN fdN) (gN : mg "is_number" = some (.ref fN))
    (FB : FnP K "__init__" "BadItem.__init__" (s_err 5) (ma K (ga K "BadItem") "__init__") fdB) (I : Itm P w K mg base fdI d2) (W : Wlk P w K mg base fdW) (T : Txt K mg) : FnOk P w K mg base (L2.CX P w) 5 f fd ["values"] (spAs K) := by
  have zisi : mg "isinstance" = none := T.bl (by decide +kernel)
  have zen : mg "enumerate" = none := T.bl (by decide +kernel)
  have gB : mg "BadItem" = some (.ref (ga K "BadItem")) := T.cl (by decide +kernel)
  have gI : mg "Item" = some (.ref (ga K "Item")) := T.cl (by decide +kernel)
  have mB : (("BadItem", 5, "part") : Str × Nat × Str) ∈ errs := by decide +kernel
  obtain ⟨iB, tB⟩ := T.ini mB
  have G_rnk : FnOk P w K mg base CX0 2 fR fdR ["value"] spRank := ok_rnk FR FN gN T
  have G_bad : FnOk P w K mg base CX0 1 _ fdB ["self", "part"] (spIni (ga K "BadItem") "part") := ok_BadItem FB T
  have b_rnk : Binds K fdR ["value"] [] := FR.bindsN fun _ _ _ _ _ _ us hl => match us, hl with | [_], _ => rfl
  have b_bad : Binds K fdB ["self", "part"] [] := FB.bindsN fun _ _ _ _ _ _ us hl => match us, hl with | [_, _], _ => rfl
  have mI := T.mtR (m := "__iter__") (by decide +kernel)
  refine F.ok sc_as (fun vs H Q E h => ?_) (fun cdv A outer s H vs Q E hr h => ?_)
  · obtain ⟨q, xs, os, rfl, _⟩ := h
    rfl
  · obtain ⟨q, xs, os, rfl, hS, hn, ho, hv, kg, kb⟩ := h
    refine ⟨_, (pss_cons (ps_set (i := 1) sc_as.nd rfl (Or.inl rfl) (pe_lstN pa_nil))
    (pss_cons (ps_for (passes_of rfl) rfl (pi_enumA mI.at_ mI.fn W.ok (hr.mono (by decide)) W.b pass0 (E := E0) (by rfl) zen (pa_cons (pv 0) pa_nil)) (pg_tup (by rfl) (pgs_cons (pg_name (i := 2) sc_as.nd rfl (Or.inl rfl)) (pgs_cons (pg_name (i := 3) sc_as.nd rfl (Or.inl rfl)) pgs_nil)))
    (pss_one (ps_if (pt_val (pe_callB call_isA (by rfl) zisi (by decide +kernel) (pa_cons (pv 3) (pa_cons (pe_glob (v := .ref (ga K "Item")) rfl gI rfl) pa_nil)))) (pss_one (ps_expr (pe_bm PySem.F.plainAttrs_list PySem.F.slot_list_append PySem.F.type_list_append mt_append (pv 1) (pa_cons (pv 3) pa_nil)))) (pss_one (ps_if (pt_val (pe_call G_rnk (hr.mono (by decide)) rfl gR FR.kp b_rnk .nil pass0 (pa_cons (pv 3) pa_nil))) (pss_one (ps_expr (pe_bm PySem.F.plainAttrs_list PySem.F.slot_list_append PySem.F.type_list_append mt_append (pv 1) (pa_cons (pe_make (E := E0) T.mkI I.ok (hr.mono (by decide)) rfl gI I.b2 I.r2 passL (pa_cons (pv 3) pa_nil)) pa_nil)))) (pss_one (ps_raise rfl (takes_of rfl rfl rfl rfl) (pmk_oex (T.xc mB).ox iB tB G_bad (hr.mono (by decide)) b_bad .nil pass0 rfl gB (pa_cons (pv 2) pa_nil)))))))))
    (pss_one (ps_ret (pv 1))))), ?_⟩
    refine ⟨sz1000 (Nat.zero_le _), fun l H1 f1 m1 s1 g1 => ?_⟩
    dsimp only [gName]
    unfold tSeq
    refine enumA_for (fun R r => ⟨_, rfl, r⟩) s1 hS fun G H2 s2 still => for_enum (xs := xs) (fun i σ H' => ∃ (kv vv : Option V) (ys : List V) (ps : List (Int × Str)), σ = [some (.ref q), some (.ref l), kv, vv] ∧ Same H H' ∧ H' l = some (.lst ys) ∧ Its K H' ys ps ∧ ps.length = i ∧ ∀ (m : Nat) (p : Int × Str), ps[m]? = some p → os[m]? = some (some p))
      ⟨none, none, [], [], rfl, s1.trans s2, s2 _ _ g1, .nil, rfl, fun m p hp => nomatch hp⟩ (fun i σ H' _ ⟨_, _, _, _, _, sm, _⟩ => still H' sm) ?_ ?_
    · rintro i x t σ H3 H4 hx ⟨kv, vv, ys, ps, rfl, sm, gl, its, hl, hp⟩ ht s4 et
      obtain ⟨o, eo, hv3⟩ := hv i x hx
      have sm4 := sm.trans s4
      have hv4 := hv3.same sm4
      have gl4 := s4 _ _ gl
      have lt : ys.length < sizeLine := by
        have h1 : ys.length = ps.length := Paired.length its
        have h2 : i < xs.length := (List.getElem?_eq_some_iff.mp hx).1
        exact Nat.lt_of_lt_of_le (show ys.length < 1000 by omega) (by decide)
      have snoc : ∀ {p : Int × Str}, o = some p → ∀ (m : Nat) (p' : Int × Str), (ps ++ [p])[m]? = some p' → os[m]? = some (some p') := fun {p} e m p' hm => by
        by_cases h : m < ps.length
        · rw [List.getElem?_append_left h] at hm
          exact hp m p' hm
        · have h2 : m = ps.length := by
            have := (List.getElem?_eq_some_iff.mp hm).1
            rw [List.length_append, List.length_singleton] at this
            omega
          subst h2
          rw [List.getElem?_append_right (Nat.le_refl _), Nat.sub_self] at hm
          cases hm
          rw [hl, eo, e]
      refine ⟨t, _, rfl, SqT.of et, rfl, ?_⟩
      refine ⟨_, _, rfl, _, _, rfl, rfl, ?_⟩
      cases hv4 with
      | @item a j z h =>
        refine ⟨_, rfl, .ref a, .ref (ga K "Item"), _, _, _, rfl, .own _, .inl (h.ty T), T.kitII, _, rfl, ?_⟩
        refine ⟨_, rfl, .inl ⟨rfl, _, SqL.of gl4⟩, _, rfl, l, _, _, rfl, rfl, gl4, lt, ?_⟩
        exact ⟨_, _, ys ++ [.ref a], ps ++ [(j, z)], rfl, same_upd sm4 f1, upd_same, Its.snoc (its_upd gl4 (its.same s4)) (it_upd gl4 h), by rw [List.length_append, hl]; rfl, snoc rfl⟩
      | @int j h =>
        refine ⟨_, rfl, .int j, .ref (ga K "Item"), .type "int", _, _, rfl, .own _, .inl (.base (.int _)), (T.kind (by decide)).1, _, rfl, ?_⟩
        refine ⟨_, rfl, .int j, "int", rfl, .int j, _, rfl, ?_⟩
        rw [h]
        refine ⟨_, rfl, .inl ⟨rfl, _, SqL.of gl4⟩, _, rfl, fun x dx hx1 hd1 hne1 => item_mk hx1 hd1 hne1 h (by decide +kernel) (by decide) fun H5 I5 s5 => ⟨rfl, ?_⟩⟩
        have gl5 := s5 _ _ gl4
        refine ⟨l, _, _, rfl, rfl, gl5, lt, ?_⟩
        exact ⟨_, _, ys ++ [.ref x], ps ++ [(j, ("" : Str))], rfl, same_upd (sm4.trans s5) f1, upd_same, Its.snoc (its_upd gl5 ((its.same s4).same s5)) (it_upd gl5 I5), by rw [List.length_append, hl]; rfl, snoc rfl⟩
      | @bad x t' b nb =>
        refine ⟨_, rfl, x, .ref (ga K "Item"), .type t', _, _, rfl, .own _, .inl b.ty, (T.kind (bv_kind b)).1, _, rfl, ?_⟩
        refine ⟨_, rfl, x, t', rfl, b, _, rfl, ?_⟩
        rw [nb]
        refine ⟨_, rfl, ?_⟩
        exact err_out fun d H5 s5 e5 => kb i ps d H5 hl hp eo (sm4.trans s5) e5
    · rintro σ H3 ⟨kv, vv, ys, ps, rfl, sm, gl, its, hl, hp⟩
      refine ⟨_, rfl, kg ps l H3 ys ?_ f1 sm gl its⟩
      refine List.ext_getElem? fun m => ?_
      by_cases h : m < ps.length
      · rw [List.getElem?_map, List.getElem?_eq_getElem h]
        exact hp m _ (List.getElem?_eq_getElem h)
      · rw [List.getElem?_eq_none (by omega), List.getElem?_eq_none (by rw [List.length_map]; omega)]
end
end K08
namespace K08
open PySem PySem.Spec PyProof.Rows L2 He Tw
def spTwo (K : Fg) (f : Int → Str → Int → Str → Bool) : Sp := fun vs H Q _ => ∃ (a b : Addr) (i j : Int) (z u : Str), vs = [.ref a, .ref b] ∧ It K H a i z ∧ It K H b j u ∧ Q (.bl (f i z j u)) H
def fBefore (i : Int) (_ : Str) (j : Int) (_ : Str) : Bool := decide (i < j)
/-- in order up to n pairs -/
def Up (ps : List (Int × Str)) (n : Nat) : Prop := ∀ (m : Nat) (a b : Int × Str), m < n → ps[m]? = some a → ps[m + 1]? = some b → a.1 ≤ b.1
def spNeed (K : Fg) : Sp := fun vs H Q E => ∃ (l : Addr) (most : Int) (ys : List V) (ps : List (Int × Str)), vs = [.ref l, .int most] ∧ H l = some (.lst ys) ∧ Its K H ys ps ∧ ys.length ≤ 900 ∧
  (Up ps ps.length → (ps.length : Int) ≤ most → Q .non H) ∧
  (∀ (k : Nat) (a b : Int × Str), ps[k]? = some a → ps[k + 1]? = some b → b.1 < a.1 → Up ps k → ∀ (d : Addr) (H' : Hp), Same H H' → H' d = some (.xd [("at", .int (1 + (k : Int)))]) → E (.ref (ga K "Disordered")) (some d) H') ∧
  (Up ps ps.length → most < (ps.length : Int) → ∀ (d : Addr) (H' : Hp), Same H H' → H' d = some (.xd [("most", .int most)]) → E (.ref (ga K "TooMany")) (some d) H')
theorem its_len {K : Fg} {H : Hp} {ys : List V} {ps : List (Int × Str)} (h : Its K H ys ps) : ys.length = ps.length := Paired.length h
theorem its_at {K : Fg} {H : Hp} : ∀ {ys : List V} {ps : List (Int × Str)} {i : Nat} {p : Int × Str}, Its K H ys ps → ps[i]? = some p → ∃ a, ys[i]? = some (V.ref a) ∧ It K H a p.1 p.2
  | _, _, 0, _, .cons ⟨a, h1, h2⟩ _, e => by
    cases e
    exact ⟨a, congrArg some h1, h2⟩
  | _, _, n + 1, _, .cons _ t, e => its_at (i := n) (show Its _ _ _ _ from t) e
abbrev s_bef : Stmt := inClass (topS 17) 3
theorem sc_bef : FnScope ["self", "other"] ["self", "other"] (defScope s_bef) := ⟨rfl, rfl, rfl, by decide +kernel, rfl, by decide +kernel, by decide +kernel⟩
abbrev s_need : Stmt := topS 20
abbrev N_need : List Str := ["items", "most", "k"]
theorem sc_need : FnScope N_need ["items", "most"] (defScope s_need) := ⟨rfl, rfl, rfl, by decide +kernel, rfl, by decide +kernel, by decide +kernel⟩
section
variable {P : Program} {w : World} {K : Fg} {mg : Str → Option Value} {base : Heap}
theorem ok_bef {f : Addr} {fd : FuncData} (F : FnP K "before" "Item.before" s_bef f fd) (T : Txt K mg) : FnOk P w K mg base CX0 1 f fd ["self", "other"] (spTwo K fBefore) := by
  refine F.ok sc_bef (fun vs H Q E h => ?_) (fun cdv A outer s H vs Q E hr h => ?_)
  · obtain ⟨a, b, i, j, z, u, rfl, _⟩ := h
    rfl
  · obtain ⟨a, b, i, j, z, u, rfl, ⟨dx, ha⟩, ⟨db, hb⟩, k⟩ := h
    refine ⟨_, PSs.nox (pss_one (ps_ret (pe_cmpR op_lt (pe_fld (pv 0) rfl) (pe_fld (pv 1) rfl) (nomark _)))), ?_⟩
    exact ⟨_, rfl, a, _, dx, _, _, rfl, ha, T.cls, T.na (by decide +kernel), rfl, _, rfl, b, _, db, _, _, rfl, hb, T.cls, T.na (by decide +kernel), rfl, _, _, rfl, rfl, k⟩
theorem ok_need {f : Addr} {fd fdB fdD fdM : FuncData} (F : FnP K "need_row" "need_row" s_need f fd) (FB : FnP K "before" "Item.before" s_bef (ma K (ga K "Item") "before") fdB)
    (FD : FnP K "__init__" "Disordered.__init__" (s_err 7) (ma K (ga K "Disordered") "__init__") fdD) (FM : FnP K "__init__" "TooMany.__init__" (s_err 8) (ma K (ga K "TooMany") "__init__") fdM) (T : Txt K mg) : FnOk P w K mg base (L2.CX P w) 3 f fd ["items", "most"] (spNeed K) := by
  have zr : mg "range" = none := T.bl (by decide +kernel)
  have zlen : mg "len" = none := T.bl (by decide +kernel)
  have gD : mg "Disordered" = some (.ref (ga K "Disordered")) := T.cl (by decide +kernel)
  have gM : mg "TooMany" = some (.ref (ga K "TooMany")) := T.cl (by decide +kernel)
  have mD : (("Disordered", 7, "at") : Str × Nat × Str) ∈ errs := by decide +kernel
  have mM : (("TooMany", 8, "most") : Str × Nat × Str) ∈ errs := by decide +kernel
  obtain ⟨iD, tD⟩ := T.ini mD
  obtain ⟨iM, tM⟩ := T.ini mM
  have G_bef : FnOk P w K mg base CX0 1 _ fdB ["self", "other"] (spTwo K fBefore) := ok_bef FB T
  have G_dis : FnOk P w K mg base CX0 1 _ fdD ["self", "at"] (spIni (ga K "Disordered") "at") := ok_Disordered FD T
  have G_many : FnOk P w K mg base CX0 1 _ fdM ["self", "most"] (spIni (ga K "TooMany") "most") := ok_TooMany FM T
  have b_bef : Binds K fdB ["self", "other"] [] := FB.bindsN fun _ _ _ _ _ _ us hl => match us, hl with | [_, _], _ => rfl
  have b_dis : Binds K fdD ["self", "at"] [] := FD.bindsN fun _ _ _ _ _ _ us hl => match us, hl with | [_, _], _ => rfl
  have b_many : Binds K fdM ["self", "most"] [] := FM.bindsN fun _ _ _ _ _ _ us hl => match us, hl with | [_, _], _ => rfl
  refine F.ok sc_need (fun vs H Q E h => ?_) (fun cdv A outer s H vs Q E hr h => ?_)
  · obtain ⟨l, most, ys, ps, rfl, _⟩ := h
    rfl
  · obtain ⟨l, most, ys, ps, rfl, hl, its, hn, kg, kd, km⟩ := h
    have ln := its_len its
    refine ⟨_, (pss_cons (ps_for (passes_of rfl) rfl (pi_range2 rfl zr (pa_cons pe_int (pa_cons (pe_callB call_len (by rfl) zlen (by decide +kernel) (pa_cons (pv 0) pa_nil)) pa_nil))) (pg_name (i := 2) sc_need.nd rfl (Or.inl rfl))
    (pss_one (ps_if (pt_val (pe_meth (E := E0) (pe_ix ix_list (pv 0) (pv 2) (fun _ _ => rfl)) T.cls T.mtB G_bef (hr.mono (by decide)) b_bef .nil pass0 (pa_cons (pe_ix ix_list (pv 0) (pe_op op_sub (pv 2) pe_int) (fun _ _ => rfl)) pa_nil))) (pss_one (ps_raise rfl (takes_of rfl rfl rfl rfl) (pmk_oex (T.xc mD).ox iD tD G_dis (hr.mono (by decide)) b_dis .nil pass0 rfl gD (pa_cons (pv 2) pa_nil)))) pss_nil)))
    (pss_one (ps_if (pt_cmpR op_gt (pe_callB call_len (by rfl) zlen (by decide +kernel) (pa_cons (pv 0) pa_nil)) (pv 1) (nomark _)) (pss_one (ps_raise rfl (takes_of rfl rfl rfl rfl) (pmk_oex (T.xc mM).ox iM tM G_many (hr.mono (by decide)) b_many .nil pass0 rfl gM (pa_cons (pv 1) pa_nil)))) pss_nil))), ?_⟩
    have len900 : ys.length ≤ sizeLine := Nat.le_trans hn (by decide)
    refine ⟨_, rfl, _, _, rfl, .inl ⟨_, SqL.of hl, rfl⟩, 1, (ys.length : Int), rfl, ⟨by decide, by decide, by omega, by omega⟩, for_range (lo := 1) (n := ((ys.length : Int) - 1).toNat) (fun i σ H' => H' = H ∧ (∃ kv : Option V, σ = [some (.ref l), some (.int most), kv]) ∧ Up ps i) ⟨rfl, ⟨none, rfl⟩, fun m a b h => absurd h (Nat.not_lt_zero _)⟩ ?_ ?_⟩
    · rintro i σ H1 hi ⟨rfl, ⟨kv, rfl⟩, up⟩
      have h1 : i < ps.length := by omega
      have h2 : i + 1 < ps.length := by omega
      obtain ⟨a, ea, Ia⟩ := its_at its (List.getElem?_eq_getElem h2)
      obtain ⟨b, eb, Ib⟩ := its_at its (List.getElem?_eq_getElem h1)
      obtain ⟨dx, hA⟩ := id Ia
      refine ⟨_, rfl, _, rfl, l, _, _, .ref a, rfl, rfl, SqL.of hl, atI_of (by omega) (by rw [show (1 + (i : Int)).toNat = i + 1 by omega]; exact ea), ?_⟩
      refine ⟨a, dx, _, rfl, hA, rfl, _, rfl, _, rfl, _, _, rfl, rfl, l, _, _, .ref b, rfl, rfl, SqL.of hl, atI_of (by omega) (by rw [show (1 + (i : Int) - 1).toNat = i by omega]; exact eb), ?_⟩
      refine ⟨a, b, _, _, _, _, rfl, Ia, Ib, _, rfl, ite2 (fun hlt => ?_) (fun hge => ?_)⟩
      · refine ⟨_, rfl, err_out fun d H5 s5 e5 => kd i _ _ (List.getElem?_eq_getElem h1) (List.getElem?_eq_getElem h2) (of_decide_eq_true hlt) up d H5 s5 e5⟩
      · refine ⟨rfl, ⟨_, rfl⟩, fun m p q hm ep eq => ?_⟩
        by_cases h : m < i
        · exact up m p q h ep eq
        · have e : m = i := by omega
          subst e
          rw [List.getElem?_eq_getElem h1] at ep
          rw [List.getElem?_eq_getElem h2] at eq
          cases ep
          cases eq
          have z : ¬ (ps[m + 1].1 < ps[m].1) := fun y => hge (decide_eq_true y)
          omega
    · rintro σ H1 ⟨rfl, ⟨kv, rfl⟩, up⟩
      have all : Up ps ps.length := fun m a b hm ea eb => by
        have h : m + 1 < ps.length := (List.getElem?_eq_some_iff.mp eb).1
        exact up m a b (by omega) ea eb
      refine ⟨_, rfl, _, _, rfl, .inl ⟨_, SqL.of hl, rfl⟩, _, rfl, _, _, rfl, rfl, _, rfl, ite2 (fun hgt => ?_) (fun hle => ?_)⟩
      · have h := of_decide_eq_true hgt
        exact ⟨_, rfl, err_out fun d H5 s5 e5 => km all (by omega) d H5 s5 e5⟩
      · have h : ¬ (most < (ys.length : Int)) := fun y => hle (decide_eq_true y)
        exact kg all (by omega)
end
end K08
namespace K08
open PySem PySem.Spec PyProof.Rows L2 He Tw
theorem it_put {K : Fg} {H : Hp} {l a : Addr} {o : HO} {i : Int} {z : Str} (hl : ∀ dx i z, H l ≠ some (.ins (ga K "Item") dx [("rank", .int i), ("name", .str z)])) (h : It K H a i z) : It K (upd H l o) a i z := by
  obtain ⟨dx, h⟩ := h
  exact ⟨dx, by rw [upd_ne (fun e => hl dx i z (by rw [← e]; exact h))]; exact h⟩
theorem its_put {K : Fg} {H : Hp} {l : Addr} {o : HO} (hl : ∀ dx i z, H l ≠ some (.ins (ga K "Item") dx [("rank", .int i), ("name", .str z)])) : ∀ {ys : List V} {ps : List (Int × Str)}, Its K H ys ps → Its K (upd H l o) ys ps
  | _, _, .nil => .nil
  | _, _, .cons ⟨a, h1, h2⟩ t => .cons ⟨a, h1, it_put hl h2⟩ (its_put hl t)
/-- what stands for a row's items, told -/
structure Src (K : Fg) (H : Hp) (q : Addr) (xs : List V) (os : List (Option (Int × Str))) : Prop where
  seq : Seq K H q xs
  few : xs.length ≤ 900
  len : os.length = xs.length
  vv : ∀ (i : Nat) (x : V), xs[i]? = some x → ∃ o : Option (Int × Str), os[i]? = some o ∧ Vv K H x o
theorem Src.same {K : Fg} {H H' : Hp} {q : Addr} {xs : List V} {os : List (Option (Int × Str))} (e : Same H H') (h : Src K H q xs os) : Src K H' q xs os :=
  ⟨seq_same e h.seq, h.few, h.len, fun i x hx => by
    obtain ⟨o, h1, h2⟩ := h.vv i x hx
    exact ⟨o, h1, h2.same e⟩⟩
/-- how the making of a row goes wrong: which error, its field, its value -/
inductive Bad (os : List (Option (Int × Str))) : Str → Str → Int → Prop where
  | item {n : Nat} {ps : List (Int × Str)} (h1 : ps.length = n) (h2 : ∀ (m : Nat) (p : Int × Str), ps[m]? = some p → os[m]? = some (some p)) (h3 : os[n]? = some none) : Bad os "BadItem" "part" (n : Nat)
  | order {k : Nat} {ps : List (Int × Str)} {a b : Int × Str} (h0 : os = ps.map some) (h1 : ps[k]? = some a) (h2 : ps[k + 1]? = some b) (h3 : b.1 < a.1) (h4 : Up ps k) : Bad os "Disordered" "at" (1 + (k : Int))
  | many {ps : List (Int × Str)} (h0 : os = ps.map some) (h1 : Up ps ps.length) (h2 : (200 : Int) < (ps.length : Int)) : Bad os "TooMany" "most" 200
/-- a row made -/
def spRow (K : Fg) : Sp := fun vs H Q E => ∃ (a q dx : Addr) (xs : List V) (os : List (Option (Int × Str))), vs = [.ref a, .ref q] ∧ H a = some (.ins (ga K "Row") dx []) ∧ Src K H q xs os ∧
  (∀ (ps : List (Int × Str)), os = ps.map some → Up ps ps.length → ps.length ≤ 200 → ∀ (H' : Hp) (ys : List V), But a H H' → RowAt K H' a ys → Its K H' ys ps → Q .non H') ∧
  (∀ (x f : Str) (v : Int), Bad os x f v → ∀ (d : Addr) (H' : Hp), Same H H' → H' d = some (.xd [(f, .int v)]) → E (.ref (ga K x)) (some d) H')
abbrev s_row : Stmt := inClass (topS 25) 1
abbrev N_row : List Str := ["self", "items", "found"]
theorem sc_row : FnScope N_row ["self", "items"] (defScope s_row) := ⟨rfl, rfl, rfl, by decide +kernel, rfl, by decide +kernel, by decide +kernel⟩
section
variable {P : Program} {w : World} {K : Fg} {mg : Str → Option Value} {base : Heap}
theorem ok_row {f fA fN : Addr} {fd fdA fdN : FuncData} {dvs : List V} (F : FunD K "__init__" "Row.__init__" (defArgs s_row) (defBody s_row) (defScope s_row) dvs [] f fd) (FA : FnP K "as_items" "as_items" s_as fA fdA) (gA : mg "as_items" = some (.ref fA)) (G_as : FnOk P w K mg base (L2.CX P w) 5 fA fdA ["values"] (spAs K))
    (FN : FnP K "need_row" "need_row" s_need fN fdN) (gN : mg "need_row" = some (.ref fN)) (G_need : FnOk P w K mg base (L2.CX P w) 3 fN fdN ["items", "most"] (spNeed K)) (T : Txt K mg) : FnOk P w K mg base (L2.CX P w) 6 f fd ["self", "items"] (spRow K) := by
  have ztup : mg "tuple" = none := T.bl (by decide +kernel)
  have b_as : Binds K fdA ["values"] [] := FA.bindsN fun _ _ _ _ _ _ us hl => match us, hl with | [_], _ => rfl
  have b_need : Binds K fdN ["items", "most"] [] := FN.bindsN fun _ _ _ _ _ _ us hl => match us, hl with | [_, _], _ => rfl
  obtain ⟨um, hm⟩ := T.most
  refine F.ok sc_row (fun vs H Q E h => ?_) (fun cdv A outer s H vs Q E hr h => ?_)
  · obtain ⟨a, q, dx, xs, os, rfl, _⟩ := h
    rfl
  · obtain ⟨a, q, dx, xs, os, rfl, ha, S, kg, kb⟩ := h
    refine ⟨_, (pss_cons (ps_set (i := 2) sc_row.nd rfl (Or.inl rfl) (pe_callS G_as (hr.mono (by decide)) rfl gA FA.kp b_as (fun σ => passAt (takes_of rfl rfl rfl rfl) σ) (pa_cons (pv 1) pa_nil)))
    (pss_cons (ps_expr (pe_callS G_need (hr.mono (by decide)) rfl gN FN.kp b_need (fun σ => passAt (takes_of rfl rfl rfl rfl) σ) (pa_cons (pv 2) (pa_cons (pe_con (pv 0) rfl) pa_nil))))
    (pss_one (ps_fld (pv 0) (pe_callTy call_tuple_of (by rfl) ztup (by decide +kernel) (pa_cons (pv 2) pa_nil)) rfl)))), ?_⟩
    refine ⟨_, rfl, q, xs, os, rfl, S.seq, S.few, S.len, S.vv, fun ps l H1 ys e0 h0 s1 g1 its => ?_, fun n ps d H1 h1 h2 h3 s1 e1 => kb _ _ _ (.item h1 h2 h3) d H1 s1 e1⟩
    have ha1 := s1 _ _ ha
    have hl9 : ys.length ≤ 900 := by
      have h1 := S.len
      have h2 := its_len its
      rw [e0, List.length_map] at h1
      have := S.few
      omega
    refine ⟨_, rfl, _, rfl, a, _, dx, _, .int 200, um, rfl, ha1, T.clsR, hm, rfl, l, 200, ys, ps, rfl, g1, its, hl9, fun up few => ?_, fun k p p' h1 h2 h3 h4 d H2 s2 e2 => kb _ _ _ (.order e0 h1 h2 h3 h4) d H2 (s1.trans s2) e2, fun up big d H2 s2 e2 => kb _ _ _ (.many e0 up big) d H2 (s1.trans s2) e2⟩
    refine ⟨_, rfl, l, ys, rfl, .inl ⟨SqL.of g1, fun t ht => ⟨_, rfl, a, _, dx, _, rfl, (same_new ht) _ _ ha1, T.clsR, T.naR, (by show 0 < 1000; decide), ?_⟩⟩⟩
    have hat : a ≠ t := ne_of_none ha1 ht
    refine kg ps e0 up (by omega) _ ys (((But.of s1).trans (But.of (same_new ht))).trans But.upd) ⟨dx, t, upd_same, by rw [upd_ne hat.symm]; exact upd_same⟩ (its_put (fun dx' i z e => ?_) (its.same (same_new ht)))
    rw [(same_new ht) _ _ ha1] at e
    exact nomatch (HO.ins.inj (Option.some.inj e)).2.2
end
end K08
namespace K08
open PySem PySem.Spec PyProof.Rows L2 He Tw
def spListed (K : Fg) : Sp := fun vs H Q _ => ∃ (a : Addr) (ys : List V), vs = [.ref a] ∧ RowAt K H a ys ∧ ∀ (l : Addr) (H' : Hp), H l = none → Same H H' → H' l = some (.lst ys) → Q (.ref l) H'
def rk (ps : List (Int × Str)) : List Int := ps.map fun p => p.1
def spRanks (K : Fg) : Sp := fun vs H Q _ => ∃ (a : Addr) (ys : List V) (ps : List (Int × Str)), vs = [.ref a] ∧ RowAt K H a ys ∧ Its K H ys ps ∧ ys.length ≤ 900 ∧ ∀ (l : Addr) (H' : Hp), H l = none → Same H H' → H' l = some (.lst ((rk ps).map V.int)) → Q (.ref l) H'
def spLen (K : Fg) : Sp := fun vs H Q _ => ∃ (a : Addr) (ys : List V), vs = [.ref a] ∧ RowAt K H a ys ∧ ys.length ≤ 900 ∧ Q (.int (ys.length : Nat)) H
def spEqR (K : Fg) : Sp := fun vs H Q _ => ∃ (a b : Addr) (ys zs : List V) (ps us : List (Int × Str)), vs = [.ref a, .ref b] ∧ RowAt K H a ys ∧ Its K H ys ps ∧ ys.length ≤ 900 ∧ RowAt K H b zs ∧ Its K H zs us ∧ zs.length ≤ 900 ∧ rk ps = rk us ∧ ∀ H', Same H H' → Q (.bl true) H'
theorem RowAt.same {K : Fg} {H H' : Hp} {a : Addr} {ys : List V} (e : Same H H') (h : RowAt K H a ys) : RowAt K H' a ys := by
  obtain ⟨dx, t, h1, h2⟩ := h
  exact ⟨dx, t, e _ _ h1, e _ _ h2⟩
theorem fldK {X : Cx} {e : Expr} {f : Str} {pos : Pos} {ta : TE} (K : Fg) (he : PE X e ta) (hb : attributeBase e f X.env (eval e X.env) = eval e X.env := by rfl) (h : X.K = K := by rfl) : PE X (.Attribute e f pos) (tFld K ta f) := by
  subst h
  exact pe_fld he hb
abbrev s_lst : Stmt := inClass (topS 25) 10
theorem sc_lst : FnScope ["self"] ["self"] (defScope s_lst) := ⟨rfl, rfl, rfl, by decide +kernel, rfl, by decide +kernel, by decide +kernel⟩
abbrev s_rks : Stmt := inClass (topS 25) 11
abbrev N_rks : List Str := ["self", "item"]
theorem sc_rks : FnScope N_rks ["self"] (defScope s_rks) := ⟨rfl, rfl, rfl, by decide +kernel, rfl, by decide +kernel, by decide +kernel⟩
abbrev s_len : Stmt := inClass (topS 25) 3
theorem sc_len : FnScope ["self"] ["self"] (defScope s_len) := ⟨rfl, rfl, rfl, by decide +kernel, rfl, by decide +kernel, by decide +kernel⟩
abbrev s_eqr : Stmt := inClass (topS 25) 9
theorem sc_eqr : FnScope ["self", "other"] ["self", "other"] (defScope s_eqr) := ⟨rfl, rfl, rfl, by decide +kernel, rfl, by decide +kernel, by decide +kernel⟩
section
variable {P : Program} {w : World} {K : Fg} {mg : Str → Option Value} {base : Heap}
theorem ok_rks {f : Addr} {fd : FuncData} (F : FnP K "ranks" "Row.ranks" s_rks f fd) (T : Txt K mg) : FnOk P w K mg base CX0 1 f fd ["self"] (spRanks K) := by
  refine F.ok sc_rks (fun vs H Q E h => ?_) (fun cdv A outer s H vs Q E hr h => ?_)
  · obtain ⟨a, ys, ps, rfl, _⟩ := h
    rfl
  · obtain ⟨a, ys, ps, rfl, ⟨dx, t, ha, ht⟩, its, hn, k⟩ := h
    refine ⟨_, PSs.nox (pss_one (ps_ret (pe_lc (own := [("item", 1)]) (g := gName 1) (tt := tYes) (by rfl) sc_rks.nd (pi_tup (pe_fld (pv 0) rfl)) (blkOk_by (own := [("item", 1)]) (N := N_rks) (sc := defScope s_rks) (by decide +kernel)) (fun _ _ _ _ _ => (pg_name (i := 1) sc_rks.nd rfl (Or.inl rfl))) (fun _ _ _ _ _ => pts_nil) (fun _ _ _ _ _ => (fldK K (pv 1)))))), ?_⟩
    have ln := its_len its
    refine ⟨_, rfl, a, _, dx, _, _, rfl, ha, T.clsR, T.naR, rfl, t, rfl, ⟨ys, SqT.of ht⟩, fun D hD => lc_tup (K := K) (a := t) (xs := ys) (fun i H' => Same H H' ∧ H' D = some (.lst (((rk ps).take i).map V.int))) ⟨same_new hD, upd_same⟩ (fun _ _ _ q => SqT.of (q.1 _ _ ht)) ?_ ?_⟩
    · rintro i x H' hx ⟨sD, gD⟩
      have hi : i < ps.length := by
        have := (List.getElem?_eq_some_iff.mp hx).1
        omega
      obtain ⟨b, eb, Ib⟩ := its_at its (List.getElem?_eq_getElem hi)
      rw [hx] at eb
      cases eb
      obtain ⟨db, hb⟩ := Ib.same sD
      refine ⟨rfl, _, rfl, b, _, db, _, _, rfl, hb, T.cls, T.na (by decide +kernel), rfl, _, gD, ?_, same_upd sD hD, ?_⟩
      · rw [List.length_map]
        exact Nat.lt_of_le_of_lt (List.length_take_le' _ _) (by
          unfold rk
          rw [List.length_map]
          exact Nat.lt_of_lt_of_le (show ps.length < 1000 by omega) (by decide))
      · have e : (rk ps)[i]? = some ps[i].1 := by
          unfold rk
          rw [List.getElem?_map, List.getElem?_eq_getElem hi]
          rfl
        rw [upd_same, List.take_add_one, e, List.map_append]
        rfl
    · rintro H' ⟨sD, gD⟩
      rw [List.take_of_length_le (by unfold rk; rw [List.length_map]; omega)] at gD
      exact k D H' hD sD gD
theorem ok_len {f : Addr} {fd : FuncData} (F : FnP K "__len__" "Row.__len__" s_len f fd) (T : Txt K mg) : FnOk P w K mg base CX0 1 f fd ["self"] (spLen K) := by
  have zlen : mg "len" = none := T.bl (by decide +kernel)
  refine F.ok sc_len (fun vs H Q E h => ?_) (fun cdv A outer s H vs Q E hr h => ?_)
  · obtain ⟨a, ys, rfl, _⟩ := h
    rfl
  · obtain ⟨a, ys, rfl, ⟨dx, t, ha, ht⟩, hn, k⟩ := h
    refine ⟨_, PSs.nox (pss_one (ps_ret (pe_callB call_len (by rfl) zlen (by decide +kernel) (pa_cons (pe_fld (pv 0) rfl) pa_nil)))), ?_⟩
    exact ⟨_, rfl, a, _, dx, _, _, rfl, ha, T.clsR, T.naR, rfl, _, _, rfl, .inr ⟨_, SqT.of ht, rfl⟩, k⟩
end
end K08
namespace K08
open PySem PySem.Spec PyProof.Rows L2 He Tw
/-- references to pairs of these ranks and names -/
def Prs (H : Hp) (ts : List V) (ps : List (Int × Str)) : Prop := Paired (fun v p => ∃ t, v = V.ref t ∧ H t = some (.tup [.int p.1, .str p.2])) ts ps
theorem Prs.keep {H H' : Hp} (k : ∀ t xs, H t = some (.tup xs) → H' t = some (.tup xs)) : ∀ {ts : List V} {ps : List (Int × Str)}, Prs H ts ps → Prs H' ts ps
  | _, _, .nil => .nil
  | _, _, .cons ⟨t, h1, h2⟩ r => .cons ⟨t, h1, k _ _ h2⟩ (Prs.keep k r)
theorem Prs.snoc {H : Hp} : ∀ {ts : List V} {ps : List (Int × Str)} {t : Addr} {p : Int × Str}, Prs H ts ps → H t = some (.tup [.int p.1, .str p.2]) → Prs H (ts ++ [.ref t]) (ps ++ [p])
  | _, _, _, _, .nil, h => .cons ⟨_, rfl, h⟩ .nil
  | _, _, _, _, .cons x r, h => .cons x (Prs.snoc r h)
/-- a pair that makes an item -/
def Gd (p : Int × Str) : Prop := p.1.natAbs ≤ 10 ^ 29 + 10 ^ 12 ∧ textOk p.2 = true ∧ p.2.length ≤ 8
theorem up_snoc {ps : List (Int × Str)} {a : Int × Str} (h : Up ps ps.length) (hl : ∀ q, ps.getLast? = some q → q.1 ≤ a.1) : Up (ps ++ [a]) (ps ++ [a]).length := fun m x y hm ex ey => by
  have h2 : m + 1 < (ps ++ [a]).length := (List.getElem?_eq_some_iff.mp ey).1
  rw [List.length_append, List.length_singleton] at h2
  rw [List.getElem?_append_left (by omega)] at ex
  by_cases h3 : m + 1 < ps.length
  · rw [List.getElem?_append_left h3] at ey
    exact h m x y (by omega) ex ey
  · have e : m + 1 = ps.length := by omega
    rw [e, List.getElem?_append_right (Nat.le_refl _), Nat.sub_self] at ey
    cases ey
    refine hl x ?_
    rw [List.getLast?_eq_getElem?, show ps.length - 1 = m by omega]
    exact ex
def spPairs : Sp := fun vs H Q _ => ∃ (p l : Addr) (most : Nat) (c : Nat), vs = [.ref p, .int (most : Nat)] ∧ most ≤ 100 ∧ PenL H p l c ∧ c ≤ 500000 ∧
  ∀ (f : Addr) (H' : Hp) (ts : List V) (ps : List (Int × Str)), PenL H' p l (c + 300) → But p H H' → H f = none → f ≠ p → H' f = some (.lst ts) → Prs H' ts ps → ps.length ≤ most → Up ps ps.length → (∀ q ∈ ps, Gd q) → Q (.ref f) H'
abbrev s_pairs : Stmt := topS 32
abbrev N_pairs : List Str := ["_law_pen_here", "_law_most", "_law_rank", "_law_found", "_law_k"]
theorem sc_pairs : FnScope N_pairs ["_law_pen_here", "_law_most"] (defScope s_pairs) := ⟨rfl, rfl, rfl, by decide +kernel, rfl, by decide +kernel, by decide +kernel⟩
section
variable {P : Program} {w : World} {K : Fg} {mg : Str → Option Value} {base : Heap}
theorem ok_pairs {f fD fP : Addr} {fd fdD fdP : FuncData} (F : FnP K "_law_pairs" "_law_pairs" s_pairs f fd) (FD : FnP K "_law_draw" "_law_draw" s_draw fD fdD) (gD : mg "_law_draw" = some (.ref fD)) (FP : FnP K "_law_pick" "_law_pick" s_pick fP fdP) (gP : mg "_law_pick" = some (.ref fP)) (T : Txt K mg) :
    FnOk P w K mg base CX0 3 f fd ["_law_pen_here", "_law_most"] spPairs := by
  have zr : mg "range" = none := T.bl (by decide +kernel)
  have G_draw : FnOk P w K mg base CX0 1 fD fdD ["_law_pen_here", "_law_many"] spDrawL := ok_draw FD T
  have b_draw : Binds K fdD ["_law_pen_here", "_law_many"] [] := FD.bindsN fun _ _ _ _ _ _ us hl => match us, hl with | [_, _], _ => rfl
  have G_pick : FnOk P w K mg base CX0 2 fP fdP ["_law_pen_here", "_law_some"] (spPickL K) := ok_pick FP FD gD T
  have b_pick : Binds K fdP ["_law_pen_here", "_law_some"] [] := FP.bindsN fun _ _ _ _ _ _ us hl => match us, hl with | [_, _], _ => rfl
  refine F.ok sc_pairs (fun vs H Q E h => ?_) (fun cdv A outer s H vs Q E hr h => ?_)
  · obtain ⟨p, l, most, c, rfl, _⟩ := h
    rfl
  · obtain ⟨p, l, most, c, rfl, hm, hP, hc, k⟩ := h
    refine ⟨_, PSs.nox (pss_cons (ps_set (i := 2) sc_pairs.nd rfl (Or.inl rfl) (pe_call G_pick (hr.mono (by decide)) rfl gP FP.kp b_pick .nil pass0 (pa_cons (pv 0) (pa_cons (pe_lstN (pa_cons pe_int (pa_cons (pe_un un_neg pe_int) (pa_cons pe_int (pa_cons (pe_un un_neg (pe_op op_pow pe_int pe_int)) (pa_cons (pe_op op_pow pe_int pe_int) pa_nil)))))) pa_nil))))
    (pss_cons (ps_set (i := 3) sc_pairs.nd rfl (Or.inl rfl) (pe_lstN pa_nil))
    (pss_cons (ps_for PassesOwn.never rfl (pi_range1 rfl zr (pa_cons (pe_call G_draw (hr.mono (by decide)) rfl gD FD.kp b_draw .nil pass0 (pa_cons (pv 0) (pa_cons (pe_op op_add (pv 1) pe_int) pa_nil))) pa_nil)) (pg_name (i := 4) sc_pairs.nd rfl (Or.inl rfl))
    (pss_cons (ps_set (i := 2) sc_pairs.nd rfl (Or.inl rfl) (pe_op op_add (pv 2) (pe_call G_pick (hr.mono (by decide)) rfl gP FP.kp b_pick .nil pass0 (pa_cons (pv 0) (pa_cons (pe_lstN (pa_cons pe_int (pa_cons pe_int (pa_cons pe_int (pa_cons pe_int (pa_cons pe_int (pa_cons pe_int (pa_cons (pe_op op_pow pe_int pe_int) pa_nil)))))))) pa_nil)))))
    (pss_one (ps_expr (pe_bm PySem.F.plainAttrs_list PySem.F.slot_list_append PySem.F.type_list_append mt_append (pv 3) (pa_cons (pe_tupN (pa_cons (pv 2) (pa_cons (pe_call G_pick (hr.mono (by decide)) rfl gP FP.kp b_pick .nil pass0 (pa_cons (pv 0) (pa_cons (pe_lstN (pa_cons pe_str (pa_cons pe_str (pa_cons pe_str (pa_cons pe_str (pa_cons pe_str (pa_cons pe_str pa_nil))))))) pa_nil))) pa_nil))) pa_nil))))))
    (pss_one (ps_ret (pv 3)))))), ?_⟩
    refine ⟨_, rfl, _, rfl, _, _, rfl, rfl, ⟨by decide, by decide, by decide⟩, _, rfl, _, _, rfl, rfl, ⟨by decide, by decide, by decide⟩, sz1000 (by show 5 ≤ 1000; decide), fun q1 H1 f1 m1 s1 g1 => ?_⟩
    refine ⟨p, l, q1, _, c, rfl, SqL.of g1, (hP.new f1).1, (by show 0 < 5; decide), (by show 5 < 1000; decide), hP.same s1, by omega, fun v H2 hv P2 B2 => ?_⟩
    obtain ⟨r0, rfl, hr0⟩ : ∃ r : Int, v = .int r ∧ r.natAbs ≤ 10 ^ 29 := by
      simp only [List.mem_cons, List.not_mem_nil, or_false] at hv
      rcases hv with rfl | rfl | rfl | rfl | rfl
      · exact ⟨_, rfl, by decide⟩
      · exact ⟨_, rfl, by decide⟩
      · exact ⟨_, rfl, by decide⟩
      · exact ⟨_, rfl, by decide⟩
      · exact ⟨_, rfl, by decide⟩
    have B20 : But p H H2 := (But.of s1).trans B2
    refine ⟨sz1000 (Nat.zero_le _), fun lf H3 f3 m3 s3 g3 => ?_⟩
    have P3 := P2.same s3
    refine ⟨_, rfl, _, rfl, _, _, rfl, rfl, p, l, (most : Int) + 1, c + 1, rfl, by omega, by omega, P3, by omega, fun n H4 n0 n1 P4 B4 => ?_⟩
    obtain ⟨nlp, nll⟩ := P2.new f3
    have hlfH : H lf = none := by
      cases e : H lf with
      | none => rfl
      | some o =>
        by_cases h : lf = p
        · exact absurd h nlp
        · rw [B20 lf o e h] at f3
          cases f3
    have B40 : But p H H4 := (B20.trans (But.of s3)).trans B4
    refine ⟨n, rfl, by omega, by omega, for_range (lo := 0) (n := n.toNat) (fun i σ H' => ∃ (r : Int) (kv : Option V) (ts : List V) (ps : List (Int × Str)), σ = [some (.ref p), some (.int (most : Nat)), some (.int r), some (.ref lf), kv] ∧ PenL H' p l (c + 2 + 2 * i) ∧ But p H H' ∧ H' lf = some (.lst ts) ∧ Prs H' ts ps ∧ ps.length = i ∧
      Up ps ps.length ∧ (∀ q, ps.getLast? = some q → q.1 ≤ r) ∧ r.natAbs ≤ 10 ^ 29 + i * 10 ^ 9 ∧ ∀ q ∈ ps, Gd q) ⟨r0, none, [], [], rfl, P4, B40, B4 _ _ g3 nlp, .nil, rfl, (fun m a b h => absurd h (Nat.not_lt_zero _)), (fun q h => nomatch h), (by omega), (fun q h => nomatch h)⟩ ?_ ?_⟩
    · rintro i σ H5 hi ⟨r, kv, ts, ps, rfl, P5, B5, g5, prs, hl, up, last, hr5, gd⟩
      have e9 : (10 : Int) ^ (9 : Int).toNat = 1000000000 := by decide
      refine ⟨_, rfl, _, rfl, _, _, rfl, rfl, ⟨by decide, by decide, by decide⟩, sz1000 (by show 7 ≤ 1000; decide), fun q6 H6 f6 m6 s6 g6 => ?_⟩
      refine ⟨p, l, q6, _, c + 2 + 2 * i, rfl, SqL.of g6, (P5.new f6).1, (by show 0 < 7; decide), (by show 7 < 1000; decide), P5.same s6, by omega, fun v H7 hv P7 B7 => ?_⟩
      obtain ⟨d, rfl, hd0, hd1⟩ : ∃ d : Int, v = .int d ∧ 0 ≤ d ∧ d ≤ 1000000000 := by
        simp only [List.mem_cons, List.not_mem_nil, or_false] at hv
        rcases hv with rfl | rfl | rfl | rfl | rfl | rfl | rfl <;> exact ⟨_, rfl, by decide, by decide⟩
      have g7 := B7 _ _ (s6 _ _ g5) nlp
      refine ⟨_, _, rfl, rfl, _, rfl, .inl ⟨rfl, _, SqL.of g7⟩, _, rfl, _, rfl, sz1000 (by show 6 ≤ 1000; decide), fun q8 H8 f8 m8 s8 g8 => ?_⟩
      refine ⟨p, l, q8, _, c + 3 + 2 * i, rfl, SqL.of g8, (P7.new f8).1, (by show 0 < 6; decide), (by show 6 < 1000; decide), (P7.same s8).mono (by omega), by omega, fun v H9 hv P9 B9 => ?_⟩
      obtain ⟨z, rfl, tz⟩ : ∃ z : Str, v = .str z ∧ textOk z = true ∧ z.length ≤ 8 := by
        simp only [List.mem_cons, List.not_mem_nil, or_false] at hv
        rcases hv with rfl | rfl | rfl | rfl | rfl | rfl <;> exact ⟨_, rfl, by decide +kernel, by decide +kernel⟩
      have g9 := B9 _ _ (s8 _ _ g7) nlp
      refine ⟨sz1000 (by show 2 ≤ 1000; decide), fun t H10 f10 s10 g10 => ?_⟩
      have g10f := s10 _ _ g9
      have BB : But p H5 H10 := ((((But.of s6).trans B7).trans (But.of s8)).trans B9).trans (But.of s10)
      have tup_ne : ∀ {a : Addr} {xs : List V}, H5 a = some (.tup xs) → a ≠ p := fun {a xs} e h => by
        obtain ⟨ns, i', g', h1, _⟩ := P5
        rw [h, h1] at e
        cases e
      have prs10 : Prs H10 ts ps := prs.keep fun a xs e => BB _ _ e (tup_ne e)
      have lt : ts.length < sizeLine := by
        have h1 : ts.length = ps.length := Paired.length prs
        exact Nat.lt_of_lt_of_le (show ts.length < 1000 by omega) (by decide)
      refine ⟨lf, _, _, rfl, rfl, g10f, lt, r + d, _, _, ps ++ [(r + d, z)], rfl, ?_, ?_, upd_same, ?_, ?_, ?_, ?_, ?_, ?_⟩
      · obtain ⟨a1, a2⟩ := P2.new f3
        exact ((P9.same s10).upd a1 a2).mono (by omega)
      · exact fun b o hb hbp => by
          rw [upd_ne (ne_of_none hb hlfH)]
          exact BB b o (B5 b o hb hbp) hbp
      · have ne : ∀ {a : Addr} {xs : List V}, H10 a = some (.tup xs) → a ≠ lf := fun {a xs} e h => by
          rw [h, g10f] at e
          cases e
        refine Prs.snoc (prs10.keep fun a xs e => by
          rw [upd_ne (ne e)]
          exact e) ?_
        rw [upd_ne (ne g10)]
        exact g10
      · rw [List.length_append, hl]
        rfl
      · exact up_snoc up fun q hq => by
          have := last q hq
          show q.1 ≤ r + d
          omega
      · intro q hq
        rw [List.getLast?_append] at hq
        cases hq
        exact Int.le_refl _
      · have h2 : ((i + 1) * 10 ^ 9 : Nat) = i * 10 ^ 9 + 1000000000 := by omega
        omega
      · intro q hq
        rcases List.mem_append.mp hq with h | h
        · exact gd q h
        · have e := List.mem_singleton.mp h
          subst e
          refine ⟨?_, tz⟩
          show (r + d).natAbs ≤ _
          omega
    · rintro σ H5 ⟨r, kv, ts, ps, rfl, P5, B5, g5, prs, hl, up, last, hr5, gd⟩
      exact ⟨_, rfl, k lf H5 ts ps (P5.mono (by omega)) B5 hlfH nlp g5 prs (by omega) up gd⟩
end
end K08
namespace K08
open PySem PySem.Spec PyProof.Rows L2 He Tw
theorem dec_s {i j : Str} : decide (V.str i = V.str j) = decide (i = j) := by
  by_cases h : i = j
  · rw [h]
    simp
  · rw [decide_eq_false h, decide_eq_false fun z => h (V.str.inj z)]
theorem prs_at {H : Hp} : ∀ {ts : List V} {ps : List (Int × Str)} {i : Nat} {x : V}, Prs H ts ps → ts[i]? = some x → ∃ t p, x = V.ref t ∧ ps[i]? = some p ∧ H t = some (.tup [.int p.1, .str p.2])
  | _, _, 0, _, .cons ⟨t, h1, h2⟩ _, e => by
    cases e
    exact ⟨t, _, h1, rfl, h2⟩
  | _, _, n + 1, _, .cons _ r, e => prs_at (i := n) (show Prs _ _ _ from r) e
/-- values that stand for these pairs -/
def Vals' (K : Fg) (H : Hp) (xs : List V) (ps : List (Int × Str)) : Prop := Paired (fun x q => Vv K H x (some q)) xs ps
theorem vals_keep {K : Fg} {H H' : Hp} (k : ∀ a dx i z, H a = some (.ins (ga K "Item") dx [("rank", .int i), ("name", .str z)]) → H' a = some (.ins (ga K "Item") dx [("rank", .int i), ("name", .str z)])) {x : V} {q : Int × Str} (h : Vv K H x (some q)) : Vv K H' x (some q) := by
  cases h with
  | item h =>
    obtain ⟨dx, h⟩ := h
    exact .item ⟨dx, k _ _ _ _ h⟩
  | int h => exact .int h
theorem Vals'.keep {K : Fg} {H H' : Hp} (k : ∀ a dx i z, H a = some (.ins (ga K "Item") dx [("rank", .int i), ("name", .str z)]) → H' a = some (.ins (ga K "Item") dx [("rank", .int i), ("name", .str z)])) : ∀ {xs : List V} {ps : List (Int × Str)}, Vals' K H xs ps → Vals' K H' xs ps
  | _, _, .nil => .nil
  | _, _, .cons h r => .cons (vals_keep k h) (Vals'.keep k r)
theorem Vals'.snoc {K : Fg} {H : Hp} : ∀ {xs : List V} {ps : List (Int × Str)} {x : V} {q : Int × Str}, Vals' K H xs ps → Vv K H x (some q) → Vals' K H (xs ++ [x]) (ps ++ [q])
  | _, _, _, _, .nil, h => .cons h .nil
  | _, _, _, _, .cons x r, h => .cons x (Vals'.snoc r h)
theorem gd_rank {q : Int × Str} (h : Gd q) : rankOk (.int q.1) = true := by
  have h1 : -beyond < q.1 := by
    unfold beyond
    have := h.1
    omega
  have h2 : q.1 < beyond := by
    unfold beyond
    have := h.1
    omega
  show (decide _ && decide _) = true
  rw [decide_eq_true h1, decide_eq_true h2]
  rfl
def spValues (K : Fg) : Sp := fun vs H Q _ => ∃ (p l f : Addr) (ts : List V) (ps : List (Int × Str)) (c : Nat), vs = [.ref p, .ref f] ∧ PenL H p l c ∧ c ≤ 600000 ∧ H f = some (.lst ts) ∧ f ≠ p ∧ Prs H ts ps ∧ ps.length ≤ 400 ∧ (∀ q ∈ ps, Gd q) ∧
  ∀ (g : Addr) (H' : Hp) (xs : List V), PenL H' p l (c + ps.length) → But p H H' → H g = none → g ≠ p → H' g = some (.lst xs) → Vals' K H' xs ps → Q (.ref g) H'
abbrev s_values : Stmt := topS 33
abbrev N_values : List Str := ["_law_pen_here", "_law_pairs_here", "_law_found", "_law_rank", "_law_name"]
theorem sc_values : FnScope N_values ["_law_pen_here", "_law_pairs_here"] (defScope s_values) := ⟨rfl, rfl, rfl, by decide +kernel, rfl, by decide +kernel, by decide +kernel⟩
section
variable {P : Program} {w : World} {K : Fg} {mg : Str → Option Value} {base : Heap}
theorem ok_values {f fD : Addr} {fd fdD fdI : FuncData} {d2 : List Value} (F : FnP K "_law_values" "_law_values" s_values f fd) (FD : FnP K "_law_draw" "_law_draw" s_draw fD fdD) (gD : mg "_law_draw" = some (.ref fD)) (I : Itm P w K mg base fdI d2) (T : Txt K mg) :
    FnOk P w K mg base CX0 5 f fd ["_law_pen_here", "_law_pairs_here"] (spValues K) := by
  have gI : mg "Item" = some (.ref (ga K "Item")) := T.cl (by decide +kernel)
  have G_draw : FnOk P w K mg base CX0 1 fD fdD ["_law_pen_here", "_law_many"] spDrawL := ok_draw FD T
  have b_draw : Binds K fdD ["_law_pen_here", "_law_many"] [] := FD.bindsN fun _ _ _ _ _ _ us hl => match us, hl with | [_, _], _ => rfl
  refine F.ok sc_values (fun vs H Q E h => ?_) (fun cdv A outer s H vs Q E hr h => ?_)
  · obtain ⟨p, l, f, ts, ps, c, rfl, _⟩ := h
    rfl
  · obtain ⟨p, l, f, ts, ps, c, rfl, hP, hc, hf, hfp, prs, hn, gd, k⟩ := h
    refine ⟨_, PSs.nox (pss_cons (ps_set (i := 2) sc_values.nd rfl (Or.inl rfl) (pe_lstN pa_nil))
    (pss_cons (ps_for PassesOwn.never rfl (pi_list (pv 1)) (pg_tup (by rfl) (pgs_cons (pg_name (i := 3) sc_values.nd rfl (Or.inl rfl)) (pgs_cons (pg_name (i := 4) sc_values.nd rfl (Or.inl rfl)) pgs_nil)))
    (pss_one (ps_expr (pe_bm PySem.F.plainAttrs_list PySem.F.slot_list_append PySem.F.type_list_append mt_append (pv 2) (pa_cons (pe_ifExp (PW.pt (pw_and (pt_cmpR op_eq (pv 4) pe_str (nomark _)) (pw_and1 (pt_cmpR op_eq (pe_call G_draw (hr.mono (by decide)) rfl gD FD.kp b_draw .nil pass0 (pa_cons (pv 0) (pa_cons pe_int pa_nil))) pe_int (nomark _))))) (pv 3) (pe_make (E := E0) T.mkI I.ok (hr.mono (by decide)) rfl gI I.b .nil passL (pa_cons (pv 3) (pa_cons (pv 4) pa_nil)))) pa_nil)))))
    (pss_one (ps_ret (pv 2))))), ?_⟩
    have lp : ts.length = ps.length := Paired.length prs
    refine ⟨sz1000 (Nat.zero_le _), fun g H1 f1 m1 s1 g1 => ?_⟩
    obtain ⟨ngp, ngl⟩ := hP.new f1
    refine ⟨_, rfl, f, rfl, ⟨ts, SqL.of (s1 _ _ hf)⟩, for_list (K := K) (a := f) (xs := ts) (fun i σ H' => ∃ (kv nv : Option V) (xs : List V), σ = [some (.ref p), some (.ref f), some (.ref g), kv, nv] ∧ PenL H' p l (c + i) ∧ But p H H' ∧ H' g = some (.lst xs) ∧ Vals' K H' xs (ps.take i)) ⟨none, none, [], rfl, hP.same s1, But.of s1, g1, .nil⟩
      (fun i σ H' _ ⟨_, _, _, _, _, b, _⟩ => SqL.of (b _ _ hf hfp)) ?_ ?_⟩
    · rintro i x σ H2 hx ⟨kv, nv, xs, rfl, P2, B2, g2, vv⟩
      obtain ⟨t, q, rfl, eq, ht⟩ := prs_at prs hx
      obtain ⟨r, z⟩ := q
      have gq : Gd (r, z) := gd _ (List.mem_of_getElem? eq)
      have ntp : t ≠ p := fun h => by
        obtain ⟨ns, i', g', h1, _⟩ := hP
        rw [h, h1] at ht
        cases ht
      have hi : i < ps.length := (List.getElem?_eq_some_iff.mp eq).1
      have lx : xs.length < sizeLine := by
        have h1 : xs.length = (ps.take i).length := Paired.length vv
        rw [List.length_take] at h1
        exact Nat.lt_of_lt_of_le (show xs.length < 1000 by omega) (by decide)
      have tk : ps.take (i + 1) = ps.take i ++ [(r, z)] := by rw [List.take_add_one, eq]; rfl
      -- what is appended
      have fin : ∀ {H3 : Hp} {y : V} {kv nv : Option V}, PenL H3 p l (c + (i + 1)) → But p H2 H3 → Vv K H3 y (some (r, z)) → H3 g = some (.lst xs) ∧ (∃ (kv' nv' : Option V) (xs' : List V), [some (V.ref p), some (.ref f), some (.ref g), kv, nv] = [some (.ref p), some (.ref f), some (.ref g), kv', nv'] ∧ PenL (upd H3 g (.lst (xs ++ [y]))) p l (c + (i + 1)) ∧ But p H (upd H3 g (.lst (xs ++ [y]))) ∧ (upd H3 g (.lst (xs ++ [y]))) g = some (.lst xs') ∧ Vals' K (upd H3 g (.lst (xs ++ [y]))) xs' (ps.take (i + 1))) := fun {H3 y kv nv} P3 B3 vy => by
        have g3 := B3 _ _ g2 ngp
        have kp : ∀ a dx j u, H2 a = some (.ins (ga K "Item") dx [("rank", .int j), ("name", .str u)]) → H3 a = some (.ins (ga K "Item") dx [("rank", .int j), ("name", .str u)]) := fun a dx j u e => B3 _ _ e (fun h => by
          obtain ⟨ns, i', g', h1, _⟩ := P2
          rw [h, h1] at e
          cases e)
        have kg : ∀ a dx j u, H3 a = some (.ins (ga K "Item") dx [("rank", .int j), ("name", .str u)]) → (upd H3 g (.lst (xs ++ [y]))) a = some (.ins (ga K "Item") dx [("rank", .int j), ("name", .str u)]) := fun a dx j u e => by
          rw [upd_ne (fun h => by
            rw [h, g3] at e
            cases e)]
          exact e
        refine ⟨g3, kv, nv, xs ++ [y], rfl, P3.upd ngp ngl, fun b o hb hbp => ?_, upd_same, ?_⟩
        · rw [upd_ne (ne_of_none hb f1)]
          exact B3 b o (B2 b o hb hbp) hbp
        · rw [tk]
          exact Vals'.snoc ((vv.keep kp).keep kg) (vals_keep kg vy)
      have mk : ∀ {H3 : Hp} {R : VK} {x dx : Addr}, H3 x = none → H3 dx = none → dx ≠ x → (∀ H4, It K H4 x r z → Same H3 H4 → R .non H4) → spItem K [.ref x, .int r, .str z] (upd (upd H3 dx (.own x)) x (.ins (ga K "Item") dx [])) R E0 := fun h1 h2 h3 h4 => item_mk h1 h2 h3 (gd_rank gq) (show nameOk (.str z) = true from gq.2.1) (Nat.le_trans gq.2.2 (by decide)) h4
      refine ⟨t, _, rfl, SqT.of (B2 _ _ ht ntp), rfl, ?_⟩
      refine ⟨_, _, rfl, _, _, rfl, rfl, ?_⟩
      refine ⟨_, rfl, .inl ⟨rfl, _, SqL.of g2⟩, ?_⟩
      refine ⟨_, rfl, rfl, _, rfl, ?_⟩
      rw [dec_s]
      refine ite2 (fun hz => ?_) (fun hz => ?_)
      · refine ⟨_, rfl, p, l, 2, c + i, rfl, by decide, by decide, P2, by omega, fun r2 H3 _ _ P3 B3 => ⟨rfl, _, rfl, ?_⟩⟩
        have ez : z = "" := of_decide_eq_true hz
        refine ite2 (fun _ => ?_) (fun _ => ?_)
        · have vy : Vv K H3 (.int r) (some (r, z)) := by
            rw [ez]
            exact .int (gd_rank gq)
          obtain ⟨a1, a2⟩ := fin (kv := some (.int r)) (nv := some (.str z)) P3 B3 vy
          exact ⟨_, rfl, g, _, _, rfl, rfl, a1, lx, a2⟩
        · refine ⟨_, rfl, _, rfl, fun x dx h1 h2 h3 => mk h1 h2 h3 fun H4 I4 s4 => ⟨rfl, ?_⟩⟩
          obtain ⟨a1, a2⟩ := fin (kv := some (.int r)) (nv := some (.str z)) (P3.same s4) (B3.trans (But.of s4)) (.item I4)
          exact ⟨g, _, _, rfl, rfl, a1, lx, a2⟩
      · refine ⟨_, rfl, _, rfl, fun x dx h1 h2 h3 => mk h1 h2 h3 fun H4 I4 s4 => ⟨rfl, ?_⟩⟩
        obtain ⟨a1, a2⟩ := fin (kv := some (.int r)) (nv := some (.str z)) ((P2.same s4).mono (by omega)) (But.of s4) (.item I4)
        exact ⟨g, _, _, rfl, rfl, a1, lx, a2⟩
    · rintro σ H2 ⟨kv, nv, xs, rfl, P2, B2, g2, vv⟩
      rw [List.take_of_length_le (by omega)] at vv
      rw [lp] at P2
      exact ⟨_, rfl, k g H2 xs P2 B2 f1 ngp g2 vv⟩
end
end K08
namespace K08
open PySem PySem.Spec PyProof.Rows L2 He Tw
def spTold (K : Fg) : Sp := fun vs H Q _ => ∃ (f : Addr) (ys : List V) (ps : List (Int × Str)), vs = [.ref f] ∧ H f = some (.lst ys) ∧ Its K H ys ps ∧ ys.length ≤ 900 ∧ ∀ (g : Addr) (H' : Hp) (ts : List V), H g = none → Same H H' → H' g = some (.lst ts) → Prs H' ts ps → Q (.ref g) H'
/-- a value that is no item and no rank, beside the pen -/
structure Odd (H : Hp) (p : Addr) (v : V) : Prop where
  bv : ∃ t, Bv H v t
  bad : rankOk v = false
  ne : ∀ a, v = .ref a → a ≠ p
def spOdd : Sp := fun vs H Q _ => ∃ (p l : Addr) (c : Nat), vs = [.ref p] ∧ PenL H p l c ∧ c ≤ 900000 ∧ ∀ (v : V) (H' : Hp), PenL H' p l (c + 1) → But p H H' → Odd H' p v → Q v H'
abbrev s_told : Stmt := topS 34
abbrev N_told : List Str := ["_law_listed", "_law_item"]
theorem sc_told : FnScope N_told ["_law_listed"] (defScope s_told) := ⟨rfl, rfl, rfl, by decide +kernel, rfl, by decide +kernel, by decide +kernel⟩
section
variable {P : Program} {w : World} {K : Fg} {mg : Str → Option Value} {base : Heap}
theorem ok_told {f : Addr} {fd : FuncData} (F : FnP K "_law_told" "_law_told" s_told f fd) (T : Txt K mg) : FnOk P w K mg base CX0 1 f fd ["_law_listed"] (spTold K) := by
  refine F.ok sc_told (fun vs H Q E h => ?_) (fun cdv A outer s H vs Q E hr h => ?_)
  · obtain ⟨f, ys, ps, rfl, _⟩ := h
    rfl
  · obtain ⟨f, ys, ps, rfl, hf, its, hn, k⟩ := h
    refine ⟨_, PSs.nox (pss_one (ps_ret (pe_lc (own := [("_law_item", 1)]) (g := gName 1) (tt := tYes) (by rfl) sc_told.nd (pi_list (pv 0)) (blkOk_by (own := [("_law_item", 1)]) (N := N_told) (sc := defScope s_told) (by decide +kernel)) (fun _ _ _ _ _ => (pg_name (i := 1) sc_told.nd rfl (Or.inl rfl))) (fun _ _ _ _ _ => pts_nil) (fun _ _ _ _ _ => (pe_tupN (pa_cons (fldK K (pv 1)) (pa_cons (fldK K (pv 1)) pa_nil))))))), ?_⟩
    have ln := its_len its
    refine ⟨_, rfl, f, rfl, ⟨ys, SqL.of hf⟩, fun D hD => lc_list (K := K) (a := f) (xs := ys) (fun i H' => Same H H' ∧ ∃ ts, H' D = some (.lst ts) ∧ Prs H' ts (ps.take i)) ⟨same_new hD, [], upd_same, .nil⟩ (fun _ _ _ q => SqL.of (q.1 _ _ hf)) ?_ ?_⟩
    · rintro i x H' hx ⟨sD, ts, gD, prs⟩
      have hi : i < ps.length := by
        have := (List.getElem?_eq_some_iff.mp hx).1
        omega
      obtain ⟨b, eb, Ib⟩ := its_at its (List.getElem?_eq_getElem hi)
      rw [hx] at eb
      cases eb
      obtain ⟨db, hb⟩ := Ib.same sD
      refine ⟨rfl, _, rfl, b, _, db, _, _, rfl, hb, T.cls, T.na (by decide +kernel), rfl, _, rfl, b, _, db, _, _, rfl, hb, T.cls, T.na (by decide +kernel), rfl, sz1000 (by show 2 ≤ 1000; decide), fun t H2 f2 s2 g2 => ?_⟩
      have gD2 := s2 _ _ gD
      have ne : ∀ {a : Addr} {xs : List V}, H2 a = some (.tup xs) → a ≠ D := fun {a xs} e h => by
        rw [h, gD2] at e
        cases e
      refine ⟨_, gD2, ?_, same_upd (sD.trans s2) hD, _, upd_same, ?_⟩
      · have h1 : ts.length = (ps.take i).length := Paired.length prs
        rw [List.length_take] at h1
        exact Nat.lt_of_lt_of_le (show ts.length < 1000 by omega) (by decide)
      · have tk : ps.take (i + 1) = ps.take i ++ [ps[i]] := by rw [List.take_add_one, List.getElem?_eq_getElem hi]; rfl
        rw [tk]
        refine Prs.snoc ((prs.keep fun a xs e => s2 _ _ e).keep fun a xs e => by
          rw [upd_ne (ne e)]
          exact e) ?_
        rw [upd_ne (ne g2)]
        exact g2
    · rintro H' ⟨sD, ts, gD, prs⟩
      rw [List.take_of_length_le (by omega)] at prs
      exact k D H' ts hD sD gD prs
end
end K08
/-! Tw: len of an object with its own __len__; a comprehension's rules with the written part named. -/
namespace Tw
open PySem PySem.Spec PyProof.Rows L2
section
variable {X : Cx} {CX : CXT} {k : Nat} {f C : Addr} {fd : FuncData} {ps : List Str} {sp : Sp} {E : XK}
/-- len(x) by x's own __len__ -/
def rLenOwn (C : Addr) (sp : Sp) (E : XK) : List V → Hp → VK → Prop := fun xs H Q => ∃ (a dx : Addr) (fs : List (Str × V)), xs = [.ref a] ∧ H a = some (.ins C dx fs) ∧ sp [.ref a] H (fun z H' => ∃ n : Nat, z = .int (n : Nat) ∧ n < 2 ^ 62 ∧ Q z H') E
theorem call_lenOwn (hs : PySem.W.findIn X.K (.ref C) "__len__" = some (some (.ref f))) (hf : PySem.W.isFn X.K (.ref f) = true) (F : FnOk X.prog X.w X.K X.mg X.base CX k f fd ps sp) (hr : Room (k + 1) X.A) (hb : Binds X.K fd ps []) (hx : Passes CX X E) : CallR X (.builtin "len") (rLenOwn C sp E) := by
  intro pins s σ H xs us Q I r h
  obtain ⟨a, dx, fs, rfl, ea, q⟩ := h
  obtain ⟨u1, rfl, r1⟩ := vals1 r
  cases (show u1 = Value.ref a from r1)
  obtain ⟨od, ox, J⟩ := inst_at I ea
  obtain ⟨m, hF⟩ := I.fr
  refine PySem.W.len_K hF I.ok.mod.kin J hs hf ?_
  refine wpAny_mono (run_in1 F hr hb hx I (.cons r1 .nil) q) (fun w s' z => ?_) fun _ _ x => x
  obtain ⟨z', H', I', rz, n, ez, hn, qz⟩ := z
  subst ez
  obtain ⟨t, rfl⟩ := rz
  exact ⟨⟨Int.natCast_nonneg n, by omega⟩, .int (n : Nat), H', I'.tok _, ⟨_, rfl⟩, qz⟩
end
end Tw
namespace K08
open PySem PySem.Spec PyProof.Rows L2 He Tw
theorem some_inj {α : Type} : ∀ {xs ys : List α}, xs.map some = ys.map some → xs = ys
  | [], [], _ => rfl
  | [], _ :: _, h => nomatch h
  | _ :: _, [], h => nomatch h
  | x :: xs, y :: ys, h => by
    injection h with h1 h2
    rw [Option.some.inj h1, some_inj h2]
/-- a row is made of these -/
theorem row_to {K : Fg} {H : Hp} {q x dx : Addr} {xs : List V} {ps : List (Int × Str)} {R : VK} {E : XK} (hx : H x = none) (hd : H dx = none) (hne : dx ≠ x) (S : Src K H q xs (ps.map some)) (up : Up ps ps.length) (few : ps.length ≤ 200)
    (k : ∀ (H' : Hp) (ys : List V), Same H H' → RowAt K H' x ys → Its K H' ys ps → R .non H') : spRow K [.ref x, .ref q] (upd (upd H dx (.own x)) x (.ins (ga K "Row") dx [])) R E := by
  refine ⟨x, q, dx, xs, ps.map some, rfl, upd_same, S.same (same_made hd hx hne), fun ps' e up' few' H' ys b r i => ?_, fun n f v bad => ?_⟩
  · have ep : ps = ps' := some_inj e
    subst ep
    exact k H' ys (same_but (same_made hd hx hne) b hx) r i
  · cases bad with
    | @item n ps' h1 h2 h3 =>
      rw [List.getElem?_map] at h3
      cases e : ps[n]? with
      | none =>
        rw [e] at h3
        cases h3
      | some p =>
        rw [e] at h3
        cases h3
    | @order m ps' a b h0 h1 h2 h3 h4 =>
      have ep : ps = ps' := some_inj h0
      subst ep
      have lt : m < ps.length := (List.getElem?_eq_some_iff.mp h1).1
      have := up m a b lt h1 h2
      omega
    | @many ps' h0 h1 h2 =>
      have ep : ps = ps' := some_inj h0
      subst ep
      omega
/-- values that stand for pairs, as a row is made of them -/
theorem vals_src {K : Fg} {H : Hp} {q : Addr} {xs : List V} {ps : List (Int × Str)} (hs : Seq K H q xs) (v : Vals' K H xs ps) (few : ps.length ≤ 900) : Src K H q xs (ps.map some) := by
  have l : xs.length = ps.length := Paired.length v
  refine ⟨hs, by omega, by rw [List.length_map, l], ?_⟩
  have go : ∀ {xs : List V} {ps : List (Int × Str)}, Vals' K H xs ps → ∀ (i : Nat) (x : V), xs[i]? = some x → ∃ o : Option (Int × Str), (ps.map some)[i]? = some o ∧ Vv K H x o := by
    intro xs ps v
    induction v with
    | nil => exact fun i x h => nomatch h
    | cons h r ih =>
      intro i x e
      cases i with
      | zero =>
        cases e
        exact ⟨_, rfl, h⟩
      | succ n => exact ih n x e
  exact go v
theorem its_src {K : Fg} {H : Hp} {q : Addr} {ys : List V} {ps : List (Int × Str)} (hs : Seq K H q ys) (v : Its K H ys ps) (few : ps.length ≤ 900) : Src K H q ys (ps.map some) := by
  refine vals_src hs ?_ few
  clear hs few
  induction v with
  | nil => exact .nil
  | cons h r ih =>
    obtain ⟨a, e, i⟩ := h
    subst e
    exact .cons (.item i) ih
abbrev DefsK (K : Fg) (fd : Nat → FuncData) : Prop := DefsA fn K fd
section
variable {P : Program} {w : World} {K : Fg} {mg : Str → Option Value} {base : Heap} {fd : Nat → FuncData}
theorem itm (D : DefsK K fd) (T : Txt K mg) : ∃ d2, Itm P w K mg base (fd 4) d2 := by
  have F : FnI K (ma K (ga K "Item") "__init__") (fd 4) := D 4 _ rfl
  have G : FnOk P w K mg base (L2.CX P w) 3 (ma K (ga K "Item") "__init__") (fd 4) ["self", "rank", "name"] (spItem K) := ok_item (fB := 0) F (D 25 _ rfl) (T.fn (x := "is_rank") (by decide +kernel)) (D 24 _ rfl) (T.fn (x := "is_number") (by decide +kernel)) (D 23 _ rfl) (T.fn (x := "is_lettered") (by decide +kernel)) (D 0 _ rfl) T
  obtain ⟨d1, r1, b1⟩ := FunD.binds1 (ps := ["self", "rank", "name"]) F 3 1 (fun z => nomatch z) rfl fun _ _ _ _ _ _ _ us its h1 h2 => match us, h1, its, h2 with
    | [_, _, _], _, [_], _ => ⟨_, rfl, rfl⟩
  obtain ⟨d2, r2, b2⟩ := FunD.binds1 (ps := ["self", "rank", "name"]) F 2 0 (fun z => nomatch z) rfl fun _ _ _ _ _ _ _ us its h1 h2 => match us, h1, its, h2 with
    | [_, _], _, [_], _ => ⟨_, rfl, rfl⟩
  cases (show Vals [] d1 from r1)
  exact ⟨d2, G, b1, r2, b2⟩
abbrev FRow (K : Fg) (fd : Nat → FuncData) : Prop := FunD K "__init__" "Row.__init__" (defArgs s_row) (defBody s_row) (defScope s_row) [.ref (nilAt K)] [] (ma K (ga K "Row") "__init__") (fd 6)
theorem bRow (D : DefsK K fd) : Binds K (fd 6) ["self", "items"] [] := by
  obtain ⟨d1, r1, b1⟩ := FunD.binds1 (ps := ["self", "items"]) (show FRow K fd from D 6 _ rfl) 2 1 (fun z => nomatch z) rfl fun _ _ _ _ _ _ _ us its h1 h2 => match us, h1, its, h2 with
    | [_, _], _, [_], _ => ⟨_, rfl, rfl⟩
  cases (show Vals [] d1 from r1)
  exact b1
theorem G_as (D : DefsK K fd) (T : Txt K mg) : FnOk P w K mg base (L2.CX P w) 5 (ga K "as_items") (fd 26) ["values"] (spAs K) := by
  obtain ⟨d2, I⟩ := itm (P := P) (w := w) (base := base) D T
  have W : Wlk P w K mg base (fd 7) := ⟨ok_iter (D 7 _ rfl) T, (show FnP K "__iter__" "Row.__iter__" s_iter (ma K (ga K "Row") "__iter__") (fd 7) from D 7 _ rfl).bindsN fun _ _ _ _ _ _ us hl => match us, hl with | [_], _ => rfl⟩
  exact ok_as (D 26 _ rfl) (D 25 _ rfl) (T.fn (x := "is_rank") (by decide +kernel)) (D 24 _ rfl) (T.fn (x := "is_number") (by decide +kernel)) (D 0 _ rfl) I W T
theorem G_row (D : DefsK K fd) (T : Txt K mg) : FnOk P w K mg base (L2.CX P w) 6 (ma K (ga K "Row") "__init__") (fd 6) ["self", "items"] (spRow K) :=
  ok_row (D 6 _ rfl) (D 26 _ rfl) (T.fn (x := "as_items") (by decide +kernel)) (G_as D T)
    (D 27 _ rfl) (T.fn (x := "need_row") (by decide +kernel)) (ok_need (D 27 _ rfl) (D 5 _ rfl) (D 2 _ rfl) (D 3 _ rfl) T) T
end
end K08
namespace Tw
/-- what two rows' items of one rank give by a sign -/
def ofRank {α : Type} (sign : PySem.Str) (xs ys : List α) : List α :=
  if sign = "+" then xs ++ ys else if sign = "|" then xs ++ ys.drop xs.length else if sign = "&" then xs.take ys.length else if sign = "-" then xs.drop ys.length else xs.drop ys.length ++ ys.drop xs.length
theorem ofRank_nil {α : Type} (sign : PySem.Str) : ofRank sign ([] : List α) [] = [] := by
  unfold ofRank
  simp
end Tw
namespace K08
open PySem PySem.Spec PyProof.Rows L2 He Tw
abbrev at_ (r : Int) (ps : List (Int × Str)) : List (Int × Str) := ps.filter fun q => decide (q.1 = r)
/-- the items of rank r -/
def blk : List V → List (Int × Str) → Int → List V
  | y :: ys, p :: ps, r => if p.1 = r then y :: blk ys ps r else blk ys ps r
  | _, _, _ => []
theorem its_blk {K : Fg} {H : Hp} (r : Int) : ∀ {ys : List V} {ps : List (Int × Str)}, Its K H ys ps → Its K H (blk ys ps r) (at_ r ps)
  | _, _, .nil => .nil
  | _, _, .cons (b := p) (l₂ := ps) h t => by
    unfold blk at_
    by_cases e : p.1 = r
    · rw [if_pos e, List.filter_cons_of_pos (p := fun q : Int × Str => decide (q.1 = r)) (decide_eq_true e)]
      exact .cons h (its_blk r t)
    · rw [if_neg e, List.filter_cons_of_neg (p := fun q : Int × Str => decide (q.1 = r)) (fun z => e (of_decide_eq_true z))]
      exact its_blk r t
theorem blk_snoc (r : Int) (y : V) (p : Int × Str) : ∀ {ys : List V} {ps : List (Int × Str)}, ys.length = ps.length → blk (ys ++ [y]) (ps ++ [p]) r = if p.1 = r then blk ys ps r ++ [y] else blk ys ps r
  | [], [], _ => by
    by_cases e : p.1 = r <;> simp [blk, e]
  | [], _ :: _, h => nomatch h
  | _ :: _, [], h => nomatch h
  | a :: ys, q :: ps, h => by
    have ih := blk_snoc r y p (Nat.succ.inj h)
    simp only [List.cons_append, blk, ih]
    by_cases e : q.1 = r <;> by_cases e2 : p.1 = r <;> simp [e, e2]
theorem blk_none {r : Int} : ∀ {ys : List V} {ps : List (Int × Str)}, r ∉ rk ps → blk ys ps r = []
  | [], _, _ => by simp [blk]
  | _ :: _, [], _ => by simp [blk]
  | y :: ys, p :: ps, h => by
    unfold rk at h
    rw [List.map_cons, List.mem_cons, not_or] at h
    unfold blk
    rw [if_neg (fun z => h.1 z.symm)]
    exact blk_none h.2
theorem blk_len (r : Int) : ∀ (ys : List V) (ps : List (Int × Str)), (blk ys ps r).length ≤ ys.length
  | [], _ => by simp [blk]
  | _ :: _, [] => by simp [blk]
  | y :: ys, p :: ps => by
    unfold blk
    have := blk_len r ys ps
    split
    · rw [List.length_cons, List.length_cons]; omega
    · rw [List.length_cons]; omega
/-- the ranks in the order in which they come first -/
def fsts (xs : List Int) : List Int := xs.foldl (fun acc r => if r ∈ acc then acc else acc ++ [r]) []
theorem mem_fold {r : Int} : ∀ {xs acc : List Int}, r ∈ xs.foldl (fun acc r => if r ∈ acc then acc else acc ++ [r]) acc ↔ r ∈ acc ∨ r ∈ xs
  | [], acc => by simp
  | x :: xs, acc => by
    rw [List.foldl_cons, mem_fold]
    by_cases h : x ∈ acc
    · rw [if_pos h, List.mem_cons]
      constructor
      · rintro (z | z)
        · exact .inl z
        · exact .inr (.inr z)
      · rintro (z | rfl | z)
        · exact .inl z
        · exact .inl h
        · exact .inr z
    · rw [if_neg h, List.mem_append, List.mem_singleton, List.mem_cons, or_assoc]
theorem mem_fsts {r : Int} {xs : List Int} : r ∈ fsts xs ↔ r ∈ xs := by
  unfold fsts
  rw [mem_fold]
  simp
theorem fsts_rk {ps : List (Int × Str)} {p : Int × Str} : fsts (rk (ps ++ [p])) = if p.1 ∈ rk ps then fsts (rk ps) else fsts (rk ps) ++ [p.1] := by
  have e : rk (ps ++ [p]) = rk ps ++ [p.1] := by unfold rk; rw [List.map_append]; rfl
  rw [e]
  have : fsts (rk ps ++ [p.1]) = if p.1 ∈ fsts (rk ps) then fsts (rk ps) else fsts (rk ps) ++ [p.1] := by
    unfold fsts
    rw [List.foldl_append]
    rfl
  rw [this]
  by_cases h : p.1 ∈ rk ps
  · rw [if_pos h, if_pos (mem_fsts.mpr h)]
  · rw [if_neg h, if_neg fun z => h (mem_fsts.mp z)]
/-- the dict at d has for each rank a list of its own with the items -/
structure Grp (H0 H : Hp) (d : Addr) (kvs : List (Key × V)) (ys : List V) (ps : List (Int × Str)) : Prop where
  at_ : H d = some (.dK kvs)
  few : kvs.length ≤ ps.length
  there : ∀ r, r ∈ rk ps → ∃ l, valV kvs (Sum.inl r) = some (.ref l) ∧ H l = some (.lst (blk ys ps r)) ∧ H0 l = none
  not : ∀ r, r ∉ rk ps → valV kvs (Sum.inl r) = none
  inj : ∀ r s l, valV kvs (Sum.inl r) = some (.ref l) → valV kvs (Sum.inl s) = some (.ref l) → r = s
  keys : kvs.map Prod.fst = (fsts (rk ps)).map Sum.inl
def spBy (K : Fg) : Sp := fun vs H Q _ => ∃ (t : Addr) (ys : List V) (ps : List (Int × Str)), vs = [.ref t] ∧ SqT K H t ys ∧ Its K H ys ps ∧ ps.length ≤ 900 ∧ ∀ (d : Addr) (H' : Hp) (kvs : List (Key × V)), H d = none → Same H H' → Grp H H' d kvs ys ps → Q (.ref d) H'
abbrev s_by : Stmt := topS 21
abbrev N_by : List Str := ["items", "found", "item"]
theorem sc_by : FnScope N_by ["items"] (defScope s_by) := ⟨rfl, rfl, rfl, by decide +kernel, rfl, by decide +kernel, by decide +kernel⟩
theorem rk_snoc {ps : List (Int × Str)} {p : Int × Str} {r : Int} : r ∈ rk (ps ++ [p]) ↔ r ∈ rk ps ∨ r = p.1 := by
  unfold rk
  rw [List.map_append, List.mem_append]
  simp
section
variable {P : Program} {w : World} {K : Fg} {mg : Str → Option Value} {base : Heap} {fd : Nat → FuncData}
theorem ok_by {f : Addr} {fd : FuncData} (F : FnP K "by_rank" "by_rank" s_by f fd) (T : Txt K mg) : FnOk P w K mg base CX0 1 f fd ["items"] (spBy K) := by
  refine F.ok sc_by (fun vs H Q E h => ?_) (fun cdv A outer s H vs Q E hr h => ?_)
  · obtain ⟨t, ys, ps, rfl, _⟩ := h
    rfl
  · obtain ⟨t, ys, ps, rfl, ht, its, hn, k⟩ := h
    refine ⟨_, PSs.nox (pss_cons (ps_set (i := 1) sc_by.nd rfl (Or.inl rfl) pe_dnewN)
    (pss_cons (ps_for PassesOwn.never rfl (pi_tup (pv 0)) (pg_name (i := 2) sc_by.nd rfl (Or.inl rfl))
    (pss_one (ps_expr (pe_bm PySem.F.plainAttrs_list PySem.F.slot_list_append PySem.F.type_list_append mt_append (pe_dsetd (pv 1) (pe_fld (pv 2) rfl) (pe_lstN pa_nil) ⟨rfl, rfl, rfl, rfl⟩) (pa_cons (pv 2) pa_nil)))))
    (pss_one (ps_ret (pv 1))))), ?_⟩
    have ll := its_len its
    intro d H1 f1 m1 s1 g1
    dsimp only [gName]
    unfold tSeq
    refine ⟨_, rfl, t, rfl, ⟨_, sqT_same s1 ht⟩, for_tup (K := K) (a := t) (xs := ys) (fun i σ H' => ∃ v kvs, σ = [some (.ref t), some (.ref d), v] ∧ Same H H' ∧ Grp H H' d kvs (ys.take i) (ps.take i)) ⟨none, [], rfl, s1, ⟨g1, Nat.zero_le _, (fun r hr => nomatch hr), (fun _ _ => rfl), (fun r s l h => nomatch h), rfl⟩⟩ (fun i σ H' _ ⟨_, _, _, s', _⟩ => sqT_same s' ht) ?_ ?_⟩
    · rintro i x σ H2 hx ⟨v, kvs, rfl, s2, G⟩
      have hi : i < ys.length := (List.getElem?_eq_some_iff.mp hx).1
      have ep : ps[i]? = some ps[i] := List.getElem?_eq_getElem (by omega)
      obtain ⟨a, ea, ⟨dx, ha⟩⟩ := its_at its ep
      rw [hx] at ea
      cases ea
      have ha2 := s2 _ _ ha
      have ty : ys.take (i + 1) = ys.take i ++ [V.ref a] := by rw [List.take_add_one, hx]; rfl
      have tp : ps.take (i + 1) = ps.take i ++ [ps[i]] := by rw [List.take_add_one, ep]; rfl
      have lti : (ys.take i).length = (ps.take i).length := by rw [List.length_take, List.length_take, ll]
      have hsz : kvs.length < sizeLine := Nat.lt_of_le_of_lt G.few (Nat.lt_of_lt_of_le (show (ps.take i).length < 1000 by rw [List.length_take]; omega) (by decide))
      refine ⟨_, rfl, d, rfl, .inl ⟨kvs, .inl G.at_⟩, _, rfl, a, _, dx, _, .int ps[i].1, rfl, ha2, T.cls, T.na (by decide +kernel), rfl, sz1000 (by show 0 ≤ 1000; decide), fun l0 H3 f3 m3 s3 g3 => ⟨kvs, Sum.inl ps[i].1, s3 _ _ G.at_, rfl, hsz, fun v hv => ?_, fun hv => ?_⟩⟩
      · have hm : ps[i].1 ∈ rk (ps.take i) := Classical.byContradiction fun z => by
          rw [G.not _ z] at hv
          cases hv
        obtain ⟨l, e1, gl, nl⟩ := G.there _ hm
        rw [e1] at hv
        cases hv
        have gl3 := s3 _ _ gl
        have dl : d ≠ l := fun z => by
          have q := G.at_
          rw [z, gl] at q
          cases q
        refine ⟨.inl ⟨rfl, _, SqL.of gl3⟩, _, rfl, l, _, _, rfl, rfl, gl3, ?_, ?_⟩
        · exact Nat.lt_of_le_of_lt (blk_len _ _ _) (Nat.lt_of_lt_of_le (show (ys.take i).length < 1000 by rw [List.length_take]; omega) (by decide))
        · refine ⟨_, kvs, rfl, same_upd (s2.trans s3) nl, ⟨by rw [upd_ne dl]; exact s3 _ _ G.at_, by rw [tp, List.length_append]; have := G.few; omega, fun r hr => ?_, fun r hr => ?_, G.inj, by rw [tp, fsts_rk, if_pos hm]; exact G.keys⟩⟩
          · by_cases e : ps[i].1 = r
            · subst e
              exact ⟨l, e1, by rw [upd_same, ty, tp, blk_snoc _ _ _ lti, if_pos rfl], nl⟩
            · rw [tp] at hr
              rcases rk_snoc.mp hr with hr | hr
              · obtain ⟨l', q1, q2, q3⟩ := G.there r hr
                have n : l' ≠ l := fun z => e (G.inj _ _ l e1 (by rw [← z]; exact q1))
                exact ⟨l', q1, by rw [upd_ne n, ty, tp, blk_snoc _ _ _ lti, if_neg e]; exact s3 _ _ q2, q3⟩
              · exact absurd hr.symm e
          · rw [tp] at hr
            exact G.not r fun z => hr (rk_snoc.mpr (.inl z))
      · have hm : ps[i].1 ∉ rk (ps.take i) := fun z => by
          obtain ⟨l, e1, _⟩ := G.there _ z
          rw [hv] at e1
          cases e1
        have d0 : d ≠ l0 := ne_of_none G.at_ f3
        have g4 : (upd H3 d (.dK (putK kvs (Sum.inl ps[i].1) (V.ref l0)))) l0 = some (.lst []) := by
          rw [upd_ne d0.symm]
          exact g3
        have h0 : H l0 = none := by
          cases q : H l0 with
          | none => rfl
          | some o =>
            rw [s2 _ _ q] at f3
            cases f3
        refine ⟨.inl ⟨rfl, _, SqL.of g4⟩, _, rfl, l0, _, _, rfl, rfl, g4, by show 0 < sizeLine; decide, ?_⟩
        refine ⟨_, _, rfl, same_upd (same_upd (s2.trans s3) f1) h0, ⟨by rw [upd_ne d0]; exact upd_same, ?_, fun r hr => ?_, fun r hr => ?_, fun r s l q1 q2 => ?_, by rw [tp, fsts_rk, if_neg hm, putK_new _ (G.not _ hm), List.map_append, List.map_append, G.keys]; rfl⟩⟩
        · have := length_putK kvs (Sum.inl ps[i].1) (V.ref l0)
          have := G.few
          rw [tp, List.length_append, List.length_singleton]
          omega
        · rw [valV_put]
          by_cases e : ps[i].1 = r
          · subst e
            exact ⟨l0, if_pos rfl, by rw [upd_same, ty, tp, blk_snoc _ _ _ lti, if_pos rfl, blk_none hm], h0⟩
          · rw [tp] at hr
            rcases rk_snoc.mp hr with hr | hr
            · obtain ⟨l', q1, q2, q3⟩ := G.there r hr
              have n1 : l' ≠ l0 := ne_of_none q2 f3
              have n2 : l' ≠ d := fun z => by
                have q := G.at_
                rw [← z, q2] at q
                cases q
              exact ⟨l', by rw [if_neg (fun z => e (Sum.inl.inj z).symm)]; exact q1, by rw [upd_ne n1, upd_ne n2, ty, tp, blk_snoc _ _ _ lti, if_neg e]; exact s3 _ _ q2, q3⟩
            · exact absurd hr.symm e
        · rw [tp] at hr
          rw [valV_put, if_neg (fun z => hr (rk_snoc.mpr (.inr (Sum.inl.inj z))))]
          exact G.not r fun z => hr (rk_snoc.mpr (.inl z))
        · have no : ∀ t, valV kvs (Sum.inl t) ≠ some (.ref l0) := fun t z => by
            have ht : t ∈ rk (ps.take i) := Classical.byContradiction fun y => by
              rw [G.not _ y] at z
              cases z
            obtain ⟨l', w1, w2, _⟩ := G.there t ht
            rw [w1] at z
            cases z
            rw [f3] at w2
            cases w2
          rw [valV_put] at q1 q2
          by_cases e1 : (Sum.inl r : Key) = Sum.inl ps[i].1 <;> by_cases e2 : (Sum.inl s : Key) = Sum.inl ps[i].1
          · rw [Sum.inl.inj e1, Sum.inl.inj e2]
          · rw [if_pos e1] at q1
            rw [if_neg e2] at q2
            cases q1
            exact absurd q2 (no s)
          · rw [if_neg e1] at q1
            rw [if_pos e2] at q2
            cases q2
            exact absurd q1 (no r)
          · rw [if_neg e1] at q1
            rw [if_neg e2] at q2
            exact G.inj _ _ _ q1 q2
    · rintro σ H2 ⟨v, kvs, rfl, s2, G⟩
      rw [List.take_of_length_le (Nat.le_refl _), List.take_of_length_le (by omega)] at G
      exact ⟨_, rfl, k d H2 kvs f1 s2 G⟩
end
end K08
namespace Tw
open PySem PySem.Spec PyProof.Rows L2 He
/-- t + u, a tuple of both -/
def rCatU (K : Fg) : R2 := fun x y H Q => ∃ a b xs ys, x = .ref a ∧ y = .ref b ∧ SqT K H a xs ∧ SqT K H b ys ∧ xs.length + ys.length ≤ sizeLine ∧ ∀ (c : Addr) (H' : Hp), Same H H' → SqT K H' c (xs ++ ys) → Q (.ref c) H'
theorem op_catU {X : Cx} : OpR X (binaryOp .Add) (rCatU X.K) := by
  intro pins s σ H x y v u Q I rx ry h
  obtain ⟨a, b, xs, ys, e1, e2, ha, hb, hz, q⟩ := h
  have rf : Same H H := fun _ _ e => e
  refine op_catA pins s σ H x y v u Q I rx ry ⟨a, b, xs, ys, e1, e2, ha, hb, hz, fun z => ?_, fun _ z => ?_, fun _ _ p hp => q p _ (same_new hp) (SqT.of upd_same)⟩
  · subst z
    exact q b H rf hb
  · subst z
    refine q a H rf ?_
    rw [List.append_nil]
    exact ha
theorem paired_take {α β : Type} {F : α → β → Prop} : ∀ {xs : List α} {ys : List β} (n : Nat), Paired F xs ys → Paired F (xs.take n) (ys.take n)
  | _, _, 0, _ => by rw [List.take_zero, List.take_zero]; exact .nil
  | _, _, _ + 1, .nil => .nil
  | _, _, n + 1, .cons h t => .cons h (paired_take n t)
theorem paired_drop {α β : Type} {F : α → β → Prop} : ∀ {xs : List α} {ys : List β} (n : Nat), Paired F xs ys → Paired F (xs.drop n) (ys.drop n)
  | _, _, 0, h => h
  | _, _, _ + 1, .nil => .nil
  | _, _, n + 1, .cons _ t => paired_drop n t
theorem paired_app {α β : Type} {F : α → β → Prop} {zs : List α} {us : List β} (h : Paired F zs us) : ∀ {xs : List α} {ys : List β}, Paired F xs ys → Paired F (xs ++ zs) (ys ++ us)
  | _, _, .nil => h
  | _, _, .cons a t => .cons a (paired_app h t)
theorem paired_ofRank {α β : Type} {F : α → β → Prop} {xs zs : List α} {ys us : List β} (sign : Str) (h : Paired F xs ys) (g : Paired F zs us) : Paired F (ofRank sign xs zs) (ofRank sign ys us) := by
  have e1 : xs.length = ys.length := Paired.length h
  have e2 : zs.length = us.length := Paired.length g
  unfold ofRank
  rw [e1, e2]
  split
  · exact paired_app g h
  · split
    · exact paired_app (paired_drop _ g) h
    · split
      · exact paired_take _ h
      · split
        · exact paired_drop _ h
        · exact paired_app (paired_drop _ g) (paired_drop _ h)
theorem ofRank_len {α : Type} (sign : Str) (xs ys : List α) : (ofRank sign xs ys).length ≤ xs.length + ys.length := by
  unfold ofRank
  split
  · rw [List.length_append]
    exact Nat.le_refl _
  · split
    · rw [List.length_append, List.length_drop]; omega
    · split
      · rw [List.length_take]; omega
      · split
        · rw [List.length_drop]; omega
        · rw [List.length_append, List.length_drop, List.length_drop]; omega
end Tw
namespace K08
open PySem PySem.Spec PyProof.Rows L2 He Tw
theorem Grp.same {H0 H H' : Hp} {d : Addr} {kvs : List (Key × V)} {ys : List V} {ps : List (Int × Str)} (G : Grp H0 H d kvs ys ps) (e : Same H H') : Grp H0 H' d kvs ys ps :=
  ⟨e _ _ G.at_, G.few, fun r hr => by
    obtain ⟨l, h1, h2, h3⟩ := G.there r hr
    exact ⟨l, h1, e _ _ h2, h3⟩, G.not, G.inj, G.keys⟩
/-- what d.get(r, []) gives -/
theorem Grp.get {H0 H : Hp} {d e : Addr} {kvs : List (Key × V)} {ys : List V} {ps : List (Int × Str)} (G : Grp H0 H d kvs ys ps) (r : Int) (he : H e = some (.lst [])) : ∃ l, (valV kvs (Sum.inl r)).getD (.ref e) = V.ref l ∧ H l = some (.lst (blk ys ps r)) := by
  by_cases hr : r ∈ rk ps
  · obtain ⟨l, h1, h2, _⟩ := G.there r hr
    exact ⟨l, by rw [h1]; rfl, h2⟩
  · exact ⟨e, by rw [G.not r hr]; rfl, by rw [blk_none hr]; exact he⟩
def spOfRank : Sp := fun vs H Q _ => ∃ (sign : Str) (a b : Addr) (xs ys : List V), vs = [.str sign, .ref a, .ref b] ∧ H a = some (.lst xs) ∧ H b = some (.lst ys) ∧ xs.length ≤ 900 ∧ ys.length ≤ 900 ∧ ∀ (l : Addr) (H' : Hp), Same H H' → H' l = some (.lst (ofRank sign xs ys)) → Q (.ref l) H'
abbrev s_tor : Stmt := topS 23
abbrev N_tor : List Str := ["sign", "left", "right", "left_over", "right_over"]
theorem sc_tor : FnScope N_tor ["sign", "left", "right"] (defScope s_tor) := ⟨rfl, rfl, rfl, by decide +kernel, rfl, by decide +kernel, by decide +kernel⟩
section
variable {P : Program} {w : World} {K : Fg} {mg : Str → Option Value} {base : Heap} {fd : Nat → FuncData}
theorem ok_tor {f : Addr} {fd : FuncData} (F : FnP K "taken_of_rank" "taken_of_rank" s_tor f fd) (T : Txt K mg) : FnOk P w K mg base CX0 1 f fd ["sign", "left", "right"] spOfRank := by
  have zlen : mg "len" = none := T.bl (by decide +kernel)
  refine F.ok sc_tor (fun vs H Q E h => ?_) (fun cdv A outer s H vs Q E hr h => ?_)
  · obtain ⟨sign, a, b, xs, ys, rfl, _⟩ := h
    rfl
  · obtain ⟨sign, a, b, xs, ys, rfl, ha, hb, lx, ly, k⟩ := h
    refine ⟨_, PSs.nox (pss_cons (ps_set (i := 3) sc_tor.nd rfl (Or.inl rfl) (pe_slice sl_listN (pv 1) (po_some (pe_callB call_len (by rfl) zlen (by decide +kernel) (pa_cons (pv 2) pa_nil))) po_none))
    (pss_cons (ps_set (i := 4) sc_tor.nd rfl (Or.inl rfl) (pe_slice sl_listN (pv 2) (po_some (pe_callB call_len (by rfl) zlen (by decide +kernel) (pa_cons (pv 1) pa_nil))) po_none))
    (pss_cons (ps_if (pt_cmpR op_eq (pv 0) pe_str (nomark _)) (pss_one (ps_ret (pe_op op_catN (pv 1) (pv 2)))) pss_nil)
    (pss_cons (ps_if (pt_cmpR op_eq (pv 0) pe_str (nomark _)) (pss_one (ps_ret (pe_op op_catN (pv 1) (pv 4)))) pss_nil)
    (pss_cons (ps_if (pt_cmpR op_eq (pv 0) pe_str (nomark _)) (pss_one (ps_ret (pe_slice sl_listN (pv 1) po_none (po_some (pe_callB call_len (by rfl) zlen (by decide +kernel) (pa_cons (pv 2) pa_nil)))))) pss_nil)
    (pss_cons (ps_if (pt_cmpR op_eq (pv 0) pe_str (nomark _)) (pss_one (ps_ret (pv 3))) pss_nil)
    (pss_one (ps_ret (pe_op op_catN (pv 3) (pv 4)))))))))), ?_⟩
    refine ⟨_, rfl, _, rfl, _, _, rfl, .inl ⟨_, SqL.of hb, rfl⟩, _, rfl, a, xs, rfl, SqL.of ha, fun l1 H1 f1 s1 g1 => ?_⟩
    rw [cutDrop] at g1
    refine ⟨_, rfl, _, rfl, _, _, rfl, .inl ⟨_, SqL.of (s1 _ _ ha), rfl⟩, _, rfl, b, ys, rfl, SqL.of (s1 _ _ hb), fun l2 H2 f2 s2 g2 => ?_⟩
    rw [cutDrop] at g2
    have s12 := s1.trans s2
    have ha2 := s12 _ _ ha
    have hb2 := s12 _ _ hb
    have g12 := s2 _ _ g1
    have ld1 : (xs.drop ys.length).length ≤ 900 := by rw [List.length_drop]; omega
    have ld2 : (ys.drop xs.length).length ≤ 900 := by rw [List.length_drop]; omega
    have lim : ∀ {n m : Nat}, n ≤ 900 → m ≤ 900 → n + m ≤ sizeLine := fun {n m} h1 h2 => Nat.le_trans (show n + m ≤ 1800 by omega) (by decide)
    refine ⟨_, rfl, rfl, _, rfl, ?_⟩
    refine ite2 (fun hz => ?_) (fun h1 => ?_)
    · have e : sign = "+" := by rw [dec_s] at hz; exact of_decide_eq_true hz
      refine ⟨_, rfl, _, rfl, a, b, _, _, rfl, rfl, ha2, hb2, lim lx ly, fun l3 H3 f3 m3 s3 g3 => k l3 H3 (s12.trans s3) ?_⟩
      rw [g3, e]
      rfl
    have n1 : sign ≠ "+" := fun e => h1 (by rw [e]; rfl)
    refine ⟨_, rfl, rfl, _, rfl, ?_⟩
    refine ite2 (fun hz => ?_) (fun h2 => ?_)
    · have e : sign = "|" := by rw [dec_s] at hz; exact of_decide_eq_true hz
      refine ⟨_, rfl, _, rfl, a, l2, _, _, rfl, rfl, ha2, g2, lim lx ld2, fun l3 H3 f3 m3 s3 g3 => k l3 H3 (s12.trans s3) ?_⟩
      rw [g3, e]
      rfl
    have n2 : sign ≠ "|" := fun e => h2 (by rw [e]; rfl)
    refine ⟨_, rfl, rfl, _, rfl, ?_⟩
    refine ite2 (fun hz => ?_) (fun h3 => ?_)
    · have e : sign = "&" := by rw [dec_s] at hz; exact of_decide_eq_true hz
      refine ⟨_, rfl, _, rfl, _, _, rfl, .inl ⟨_, SqL.of hb2, rfl⟩, _, rfl, a, xs, rfl, SqL.of ha2, fun l3 H3 f3 s3 g3 => k l3 H3 (s12.trans s3) ?_⟩
      rw [cutTake] at g3
      rw [g3, e]
      rfl
    have n3 : sign ≠ "&" := fun e => h3 (by rw [e]; rfl)
    refine ⟨_, rfl, rfl, _, rfl, ?_⟩
    refine ite2 (fun hz => ?_) (fun h4 => ?_)
    · have e : sign = "-" := by rw [dec_s] at hz; exact of_decide_eq_true hz
      refine ⟨_, rfl, k l1 H2 s12 ?_⟩
      rw [g12, e]
      rfl
    have n4 : sign ≠ "-" := fun e => h4 (by rw [e]; rfl)
    refine ⟨_, rfl, _, rfl, l1, l2, _, _, rfl, rfl, g12, g2, lim ld1 ld2, fun l3 H3 f3 m3 s3 g3 => k l3 H3 (s12.trans s3) ?_⟩
    rw [g3]
    unfold ofRank
    rw [if_neg n1, if_neg n2, if_neg n3, if_neg n4]
end
end K08
namespace K08
open PySem PySem.Spec PyProof.Rows L2 He Tw
/-- what two rows give by a sign: ns their ranks, ascending -/
def takenL (sign : Str) (ps qs : List (Int × Str)) (ns : List Int) : List (Int × Str) := (ns.map fun r => ofRank sign (at_ r ps) (at_ r qs)).flatten
theorem takenL_snoc (sign : Str) (ps qs : List (Int × Str)) (ns : List Int) (r : Int) : takenL sign ps qs (ns ++ [r]) = takenL sign ps qs ns ++ ofRank sign (at_ r ps) (at_ r qs) := by
  unfold takenL
  rw [List.map_append, List.flatten_append]
  simp
/-- the ranks of both, strictly ascending -/
structure Rks (ps qs : List (Int × Str)) (ns : List Int) : Prop where
  asc : ns.Pairwise (· < ·)
  mem : ∀ k, k ∈ ns ↔ k ∈ rk ps ∨ k ∈ rk qs
/-- fewer than 64 ranks -/
def Few (ps qs : List (Int × Str)) : Prop := ∀ rs : List Int, rs.Nodup → (∀ r ∈ rs, r ∈ rk ps ∨ r ∈ rk qs) → rs.length < 64
def spTaken (K : Fg) : Sp := fun vs H Q _ => ∃ (sign : Str) (a b : Addr) (ys zs : List V) (ps qs : List (Int × Str)), vs = [.str sign, .ref a, .ref b] ∧ SqT K H a ys ∧ Its K H ys ps ∧ ps.length ≤ 400 ∧ SqT K H b zs ∧ Its K H zs qs ∧ qs.length ≤ 400 ∧ Few ps qs ∧
  ∀ (l : Addr) (H' : Hp) (us : List V) (ns : List Int), Same H H' → H l = none → H' l = some (.lst us) → Rks ps qs ns → Its K H' us (takenL sign ps qs ns) → Q (.ref l) H'
abbrev s_taken : Stmt := topS 22
abbrev N_taken : List Str := ["sign", "left", "right", "of_left", "of_right", "found", "rank", "item"]
theorem sc_taken : FnScope N_taken ["sign", "left", "right"] (defScope s_taken) := ⟨rfl, rfl, rfl, by decide +kernel, rfl, by decide +kernel, by decide +kernel⟩
theorem rk_app {ps qs : List (Int × Str)} {k : Int} : k ∈ rk (ps ++ qs) ↔ k ∈ rk ps ∨ k ∈ rk qs := by
  unfold rk
  rw [List.map_append, List.mem_append]
section
variable {P : Program} {w : World} {K : Fg} {mg : Str → Option Value} {base : Heap} {fd : Nat → FuncData}
theorem ok_taken {f fB fR : Addr} {fd fdB fdR : FuncData} (F : FnP K "taken" "taken" s_taken f fd) (FB : FnP K "by_rank" "by_rank" s_by fB fdB) (gB : mg "by_rank" = some (.ref fB)) (FR : FnP K "taken_of_rank" "taken_of_rank" s_tor fR fdR) (gR : mg "taken_of_rank" = some (.ref fR)) (T : Txt K mg) :
    FnOk P w K mg base CX0 2 f fd ["sign", "left", "right"] (spTaken K) := by
  have zsorted : mg "sorted" = none := T.bl (by decide +kernel)
  have GB : FnOk P w K mg base CX0 1 fB fdB ["items"] (spBy K) := ok_by FB T
  have GR : FnOk P w K mg base CX0 1 fR fdR ["sign", "left", "right"] spOfRank := ok_tor FR T
  have bB : Binds K fdB ["items"] [] := FB.bindsN fun _ _ _ _ _ _ us hl => match us, hl with | [_], _ => rfl
  have bR : Binds K fdR ["sign", "left", "right"] [] := FR.bindsN fun _ _ _ _ _ _ us hl => match us, hl with | [_, _, _], _ => rfl
  refine F.ok sc_taken (fun vs H Q E h => ?_) (fun cdv A outer s H vs Q E hr h => ?_)
  · obtain ⟨sign, a, b, ys, zs, ps, qs, rfl, _⟩ := h
    rfl
  · obtain ⟨sign, a, b, ys, zs, ps, qs, rfl, ha, ia, la, hb, ib, lb, few, k⟩ := h
    refine ⟨_, PSs.nox (pss_cons (ps_set (i := 3) sc_taken.nd rfl (Or.inl rfl) (pe_call GB (hr.mono (by decide)) rfl gB FB.kp bB .nil pass0 (pa_cons (pv 1) pa_nil)))
    (pss_cons (ps_set (i := 4) sc_taken.nd rfl (Or.inl rfl) (pe_call GB (hr.mono (by decide)) rfl gB FB.kp bB .nil pass0 (pa_cons (pv 2) pa_nil)))
    (pss_cons (ps_set (i := 5) sc_taken.nd rfl (Or.inl rfl) (pe_lstN pa_nil))
    (pss_cons (ps_for PassesOwn.never rfl (pi_list (pe_callB (cr_sortedSet rfl) (by rfl) zsorted (by decide +kernel) (pa_cons (pe_setc (own := [("item", 7)]) (g := gName 7) (tt := tYes) newInts addInts rfl sc_taken.nd (pi_tup (pe_op op_catU (pv 1) (pv 2))) (blkOk_by (own := [("item", 7)]) (N := N_taken) (sc := defScope s_taken) (by decide +kernel)) (fun _ _ _ _ _ => pg_name (i := 7) sc_taken.nd rfl (Or.inl rfl)) (fun _ _ _ _ _ => pts_nil) (fun _ _ _ _ _ => fldK K (pv 7))) pa_nil))) (pg_name (i := 6) sc_taken.nd rfl (Or.inl rfl))
    (pss_one (ps_expr (pe_bm PySem.F.plainAttrs_list PySem.F.slot_list_extend PySem.F.type_list_extend mt_extend (pv 5) (pa_cons (pe_call GR (hr.mono (by decide)) rfl gR FR.kp bR .nil pass0 (pa_cons (pv 0) (pa_cons (pe_dget2 (hu_of hr) (pv 3) (pv 6) (pe_lstN pa_nil) ⟨rfl, rfl, rfl, rfl⟩) (pa_cons (pe_dget2 (hu_of hr) (pv 4) (pv 6) (pe_lstN pa_nil) ⟨rfl, rfl, rfl, rfl⟩) pa_nil)))) pa_nil)))))
    (pss_one (ps_ret (pv 5))))))), ?_⟩
    have lla := its_len ia
    have llb := its_len ib
    refine ⟨_, rfl, a, ys, ps, rfl, ha, ia, by omega, fun d1 H1 kvs1 f1 s1 G1 => ?_⟩
    refine ⟨_, rfl, b, zs, qs, rfl, sqT_same s1 hb, ib.same s1, by omega, fun d2 H2 kvs2 f2 s2 G2 => ?_⟩
    have s02 := s1.trans s2
    refine ⟨sz1000 (by show 0 ≤ 1000; decide), fun l H3 f3 m3 s3 g3 => ?_⟩
    have s03 := s02.trans s3
    dsimp only [gName]
    unfold tSeq
    have lys : ys.length + zs.length ≤ sizeLine := Nat.le_trans (show ys.length + zs.length ≤ 1000 by omega) (by decide)
    refine ⟨_, rfl, _, rfl, a, b, ys, zs, rfl, rfl, sqT_same s03 ha, sqT_same s03 hb, lys, fun c4 H4 s4 g4 => ⟨c4, rfl, ⟨_, g4⟩, fun D hD => ?_⟩⟩
    have s04 := s03.trans s4
    have iab : Its K H4 (ys ++ zs) (ps ++ qs) := paired_app (ib.same s04) (ia.same s04)
    have lab : (ps ++ qs).length = ps.length + qs.length := List.length_append
    have hl0 : H l = none := by
      cases q : H l with
      | none => rfl
      | some o =>
        rw [s02 _ _ q] at f3
        cases f3
    refine setc_tup (o0 := fun D => SetO w D (fun _ => false) 0) (ad := adInt w) (K := K) (a := c4) (xs := ys ++ zs) (fun i H' => Same H4 H' ∧ ∃ (S : Int → Bool) (rs : List Int), H' D = some (SetO w D S rs.length) ∧ rs.Nodup ∧ (∀ k, k ∈ rs ↔ S k = true) ∧ (∀ k, k ∈ rs ↔ k ∈ rk ((ps ++ qs).take i)) ∧ rs.length ≤ i)
      ⟨same_new hD, fun _ => false, [], (show (upd H4 D (SetO w D (fun _ => false) 0)) D = some (SetO w D (fun _ => false) ([] : List Int).length) from upd_same), .nil, (fun _ => ⟨(fun z => nomatch z), (fun z => nomatch z)⟩), (fun _ => ⟨(fun z => nomatch z), (fun z => nomatch z)⟩), Nat.le_refl _⟩ (fun i H' _ q => sqT_same q.1 g4) ?_ ?_
    · rintro i x H5 hx ⟨s5, S, rs, gD, nd, m1, m2, ln⟩
      have hi : i < (ys ++ zs).length := (List.getElem?_eq_some_iff.mp hx).1
      have li : (ys ++ zs).length = (ps ++ qs).length := Paired.length iab
      have ep : (ps ++ qs)[i]? = some (ps ++ qs)[i] := List.getElem?_eq_getElem (by omega)
      obtain ⟨c, ec, ⟨dx, hc⟩⟩ := its_at iab ep
      rw [hx] at ec
      cases ec
      have lt : rs.length + 1 < scanBound := Nat.lt_of_lt_of_le (show rs.length + 1 < 1000 by omega) (by decide)
      refine ⟨rfl, _, rfl, c, _, dx, _, .int (ps ++ qs)[i].1, rfl, s5 _ _ hc, T.cls, T.na (by decide +kernel), rfl, _, S, _, rfl, gD, lt, same_upd s5 hD, fun j => S j || decide (j = (ps ++ qs)[i].1), if S (ps ++ qs)[i].1 = true then rs else rs ++ [(ps ++ qs)[i].1], ?_, ?_, fun j => ?_, fun j => ?_, ?_⟩
      · rw [upd_same]
        split
        · rfl
        · exact congrArg (fun n => some (SetO w D (fun j => S j || decide (j = (ps ++ qs)[i].1)) n)) (List.length_append (as := rs) (bs := [(ps ++ qs)[i].1])).symm
      · split
        · exact nd
        · rename_i h
          refine List.nodup_append.mpr ⟨nd, List.pairwise_singleton _ _, fun a ha b hb e => h ?_⟩
          rw [List.mem_singleton.mp hb] at e
          exact (m1 _).mp (by rw [← e]; exact ha)
      · split
        · rename_i h
          rw [m1 j]
          by_cases e : j = (ps ++ qs)[i].1
          · subst e
            simp [h]
          · simp [e]
        · rw [List.mem_append, List.mem_singleton, m1 j, Bool.or_eq_true, decide_eq_true_eq]
      · rw [List.take_add_one, ep]
        show _ ↔ j ∈ rk ((ps ++ qs).take i ++ [(ps ++ qs)[i]])
        rw [rk_snoc, ← m2 j]
        split
        · rename_i h
          refine ⟨.inl, fun z => z.elim id fun e => ?_⟩
          rw [e]
          exact (m1 _).mpr h
        · rw [List.mem_append, List.mem_singleton]
      · split
        · omega
        · rw [List.length_append]
          show rs.length + 1 ≤ _
          omega
    · rintro H5 ⟨s5, S, rs, gD, nd, m1, m2, ln⟩
      have li : (ys ++ zs).length = (ps ++ qs).length := Paired.length iab
      rw [li, List.take_of_length_le (Nat.le_refl _)] at m2
      have mm : ∀ k, k ∈ rs ↔ k ∈ rk ps ∨ k ∈ rk qs := fun k => (m2 k).trans rk_app
      refine ⟨D, S, rs.length, rfl, gD, few rs nd fun r hr => (mm r).mp hr, fun ns p asc mem len hp => ?_⟩
      have R : Rks ps qs ns := ⟨asc, fun k => by rw [mem k, ← m1 k, mm k]⟩
      have s6 := same_new (o := .lst (ns.map V.int)) hp
      have g6 : (upd H5 p (.lst (ns.map V.int))) p = some (.lst (ns.map V.int)) := upd_same
      generalize upd H5 p (.lst (ns.map V.int)) = H6 at s6 g6 ⊢
      have s46 := s5.trans s6
      have s26 : Same H2 H6 := s3.trans (s4.trans s46)
      have gl6 : H6 l = some (.lst []) := (s4.trans s46) _ _ g3
      have hpl : p ≠ l := fun z => by
        rw [z, (s4.trans s5) _ _ g3] at hp
        cases hp
      have nsl : ns.length < 64 := few ns (asc.imp fun h => Int.ne_of_lt h) fun r hr => (R.mem r).mp hr
      refine ⟨p, rfl, ⟨_, SqL.of g6⟩, for_list (K := K) (a := p) (xs := ns.map V.int) (fun i σ H' => ∃ v6 : Option V, σ = [some (.str sign), some (.ref a), some (.ref b), some (.ref d1), some (.ref d2), some (.ref l), v6, none] ∧ Same H2 H' ∧ H' p = some (.lst (ns.map V.int)) ∧ ∃ us, H' l = some (.lst us) ∧ us.length ≤ i * 1000 ∧ Its K H' us (takenL sign ps qs (ns.take i)))
        ⟨none, rfl, s26, g6, [], gl6, Nat.zero_le _, .nil⟩ (fun i σ H' _ ⟨_, _, _, gp, _⟩ => SqL.of gp) ?_ ?_⟩
      · rintro i x σ H7 hx ⟨v6, rfl, s7, gp7, us, gl7, lus, ius⟩
        rw [List.getElem?_map] at hx
        cases er : ns[i]? with
        | none =>
          rw [er] at hx
          cases hx
        | some r =>
          rw [er] at hx
          cases hx
          have hi : i < ns.length := (List.getElem?_eq_some_iff.mp er).1
          have G1' := (G1.same s2).same s7
          have G2' := G2.same s7
          refine ⟨_, rfl, .inl ⟨rfl, _, SqL.of gl7⟩, _, rfl, _, rfl, d1, rfl, .inl ⟨kvs1, .inl G1'.at_⟩, _, rfl, sz1000 (by show 0 ≤ 1000; decide), fun e1 H8 f8 m8 s8 g8 => ⟨_, DGet.k (k := Sum.inl r) (s8 _ _ G1'.at_), ?_⟩⟩
          obtain ⟨l1, x1, gx1⟩ := (G1'.same s8).get r g8
          rw [x1]
          refine ⟨_, rfl, d2, rfl, .inl ⟨kvs2, .inl (s8 _ _ G2'.at_)⟩, _, rfl, sz1000 (by show 0 ≤ 1000; decide), fun e2 H9 f9 m9 s9 g9 => ⟨_, DGet.k (k := Sum.inl r) ((s8.trans s9) _ _ G2'.at_), ?_⟩⟩
          obtain ⟨l2, x2, gx2⟩ := (G2'.same (s8.trans s9)).get r g9
          rw [x2]
          have b1 := blk_len r ys ps
          have b2 := blk_len r zs qs
          refine ⟨sign, l1, l2, _, _, rfl, s9 _ _ gx1, gx2, by omega, by omega, fun lr H10 s10 g10 => ?_⟩
          have s710 := s8.trans (s9.trans s10)
          have lo := ofRank_len sign (blk ys ps r) (blk zs qs r)
          refine ⟨l, lr, us, _, rfl, rfl, s710 _ _ gl7, g10, Nat.le_trans (show us.length + (ofRank sign (blk ys ps r) (blk zs qs r)).length ≤ 100000 by omega) (by decide), ?_⟩
          have hln : H2 l = none := f3
          refine ⟨_, rfl, same_upd (s7.trans s710) hln, by rw [upd_ne hpl]; exact s710 _ _ gp7, _, upd_same, ?_, ?_⟩
          · rw [List.length_append]
            omega
          · have tk : ns.take (i + 1) = ns.take i ++ [r] := by rw [List.take_add_one, er]; rfl
            rw [tk, takenL_snoc]
            have i10 : Its K H10 (us ++ ofRank sign (blk ys ps r) (blk zs qs r)) (takenL sign ps qs (ns.take i) ++ ofRank sign (at_ r ps) (at_ r qs)) :=
              paired_app (paired_ofRank sign (its_blk r ((ia.same s02).same (s7.trans s710))) (its_blk r ((ib.same s02).same (s7.trans s710)))) (ius.same s710)
            exact its_upd (s710 _ _ gl7) i10
      · rintro σ H7 ⟨v6, rfl, s7, gp7, us, gl7, lus, ius⟩
        rw [List.take_of_length_le (by rw [List.length_map]; exact Nat.le_refl _)] at ius
        exact ⟨_, rfl, k l H7 us ns (s02.trans s7) hl0 gl7 R ius⟩
end
end K08
namespace K08
open PySem PySem.Spec PyProof.Rows L2 He Tw
/-! ### the mathematics of takenL -/
theorem sum_ind (x : Int) : ∀ {ns : List Int}, ns.Nodup → (ns.map fun r => if x = r then 1 else 0).sum ≤ 1
  | [], _ => by simp
  | r :: ns, nd => by
    obtain ⟨n1, n2⟩ := List.nodup_cons.mp nd
    have ih := sum_ind x n2
    rw [List.map_cons, List.sum_cons]
    by_cases e : x = r
    · rw [if_pos e]
      have z : (ns.map fun r => if x = r then 1 else 0).sum = 0 := by
        have : ∀ {ms : List Int}, r ∉ ms → (ms.map fun r => if x = r then 1 else 0).sum = 0 := by
          intro ms
          induction ms with
          | nil => intro _; rfl
          | cons m ms ih2 =>
            intro h
            rw [List.mem_cons, not_or] at h
            rw [List.map_cons, List.sum_cons, if_neg (fun y => h.1 (by rw [← e, y])), ih2 h.2]
        exact this n1
      omega
    · rw [if_neg e]
      omega
theorem sum_add (f g : Int → Nat) : ∀ ns : List Int, (ns.map fun r => f r + g r).sum = (ns.map f).sum + (ns.map g).sum
  | [] => rfl
  | r :: ns => by
    have ih := sum_add f g ns
    simp only [List.map_cons, List.sum_cons] at ih ⊢
    omega
theorem sum_at {ns : List Int} (nd : ns.Nodup) : ∀ ps : List (Int × Str), (ns.map fun r => (at_ r ps).length).sum ≤ ps.length
  | [] => by
    have : ∀ ms : List Int, (ms.map fun r => (at_ r ([] : List (Int × Str))).length).sum = 0 := by
      intro ms
      induction ms with
      | nil => rfl
      | cons m ms ih => rw [List.map_cons, List.sum_cons, ih]; rfl
    rw [this]
    exact Nat.zero_le _
  | p :: ps => by
    have ih := sum_at nd ps
    have h1 := sum_ind p.1 nd
    have e : ∀ r, (at_ r (p :: ps)).length = (if p.1 = r then 1 else 0) + (at_ r ps).length := fun r => by
      unfold at_
      by_cases e : p.1 = r
      · rw [if_pos e, List.filter_cons_of_pos (p := fun q : Int × Str => decide (q.1 = r)) (decide_eq_true e), List.length_cons]
        omega
      · rw [if_neg e, List.filter_cons_of_neg (p := fun q : Int × Str => decide (q.1 = r)) (fun z => e (of_decide_eq_true z))]
        omega
    have e2 : (ns.map fun r => (at_ r (p :: ps)).length) = ns.map fun r => (if p.1 = r then 1 else 0) + (at_ r ps).length := List.map_congr_left fun r _ => e r
    rw [e2, sum_add, List.length_cons]
    omega
theorem asc_nodup {ns : List Int} (h : ns.Pairwise (· < ·)) : ns.Nodup := h.imp fun h => Int.ne_of_lt h
theorem takenL_len {sign : Str} {ps qs : List (Int × Str)} {ns : List Int} (R : Rks ps qs ns) : (takenL sign ps qs ns).length ≤ ps.length + qs.length := by
  have h1 := sum_at (asc_nodup R.asc) ps
  have h2 := sum_at (asc_nodup R.asc) qs
  have : ∀ ms : List Int, (takenL sign ps qs ms).length ≤ (ms.map fun r => (at_ r ps).length).sum + (ms.map fun r => (at_ r qs).length).sum := by
    intro ms
    induction ms with
    | nil => exact Nat.zero_le _
    | cons m ms ih =>
      have e : takenL sign ps qs (m :: ms) = ofRank sign (at_ m ps) (at_ m qs) ++ takenL sign ps qs ms := rfl
      have := ofRank_len sign (at_ m ps) (at_ m qs)
      rw [e, List.length_append, List.map_cons, List.map_cons, List.sum_cons, List.sum_cons]
      omega
  have := this ns
  omega
theorem ofRank_mem {α : Type} {sign : Str} {xs ys : List α} {x : α} (h : x ∈ ofRank sign xs ys) : x ∈ xs ∨ x ∈ ys := by
  unfold ofRank at h
  split at h
  · exact List.mem_append.mp h
  · split at h
    · exact (List.mem_append.mp h).imp_right List.mem_of_mem_drop
    · split at h
      · exact .inl (List.mem_of_mem_take h)
      · split at h
        · exact .inl (List.mem_of_mem_drop h)
        · exact (List.mem_append.mp h).imp List.mem_of_mem_drop List.mem_of_mem_drop
theorem ofRank_at {sign : Str} {ps qs : List (Int × Str)} {r : Int} {q : Int × Str} (h : q ∈ ofRank sign (at_ r ps) (at_ r qs)) : q.1 = r ∧ (q ∈ ps ∨ q ∈ qs) := by
  rcases ofRank_mem h with h | h
  · obtain ⟨h1, h2⟩ := List.mem_filter.mp h
    exact ⟨of_decide_eq_true h2, .inl h1⟩
  · obtain ⟨h1, h2⟩ := List.mem_filter.mp h
    exact ⟨of_decide_eq_true h2, .inr h1⟩
abbrev Asc (ps : List (Int × Str)) : Prop := ps.Pairwise fun a b => a.1 ≤ b.1
theorem takenL_asc {sign : Str} {ps qs : List (Int × Str)} {ns : List Int} (R : ns.Pairwise (· < ·)) : Asc (takenL sign ps qs ns) := by
  unfold takenL Asc
  refine List.pairwise_flatten.mpr ⟨fun l hl => ?_, ?_⟩
  · obtain ⟨r, _, rfl⟩ := List.mem_map.mp hl
    exact List.Pairwise.imp_of_mem (R := fun _ _ => True) (fun ha hb _ => by rw [(ofRank_at ha).1, (ofRank_at hb).1]; exact Int.le_refl _) (List.pairwise_of_forall (fun _ _ => trivial))
  · refine List.pairwise_map.mpr (R.imp fun h x hx y hy => ?_)
    rw [(ofRank_at hx).1, (ofRank_at hy).1]
    omega
theorem asc_up {ps : List (Int × Str)} (h : Asc ps) : Up ps ps.length := fun m a b hm ha hb => by
  obtain ⟨h1, e1⟩ := List.getElem?_eq_some_iff.mp ha
  obtain ⟨h2, e2⟩ := List.getElem?_eq_some_iff.mp hb
  rw [← e1, ← e2]
  exact List.pairwise_iff_getElem.mp h m (m + 1) h1 h2 (by omega)
theorem takenL_mem {sign : Str} {ps qs : List (Int × Str)} {ns : List Int} {q : Int × Str} (h : q ∈ takenL sign ps qs ns) : q ∈ ps ∨ q ∈ qs := by
  obtain ⟨l, hl, hq⟩ := List.mem_flatten.mp h
  obtain ⟨r, _, rfl⟩ := List.mem_map.mp hl
  exact (ofRank_at hq).2
/-- a row made of these, or too long -/
theorem row_or {K : Fg} {H : Hp} {q x dx : Addr} {xs : List V} {ps : List (Int × Str)} {R : VK} {E : XK} (hx : H x = none) (hd : H dx = none) (hne : dx ≠ x) (S : Src K H q xs (ps.map some)) (up : Up ps ps.length)
    (k : ps.length ≤ 200 → ∀ (H' : Hp) (ys : List V), Same H H' → RowAt K H' x ys → Its K H' ys ps → R .non H')
    (kb : 200 < ps.length → ∀ (d : Addr) (H' : Hp), Same H H' → H' d = some (.xd [("most", .int 200)]) → E (.ref (ga K "TooMany")) (some d) H') : spRow K [.ref x, .ref q] (upd (upd H dx (.own x)) x (.ins (ga K "Row") dx [])) R E := by
  have sm := same_made (o := .own x) (u := .ins (ga K "Row") dx []) hd hx hne
  refine ⟨x, q, dx, xs, ps.map some, rfl, upd_same, S.same sm, fun ps' e up' few' H' ys b r i => ?_, fun n f v bad d H' s g => ?_⟩
  · have ep := some_inj e
    subst ep
    exact k few' H' ys (same_but sm b hx) r i
  · cases bad with
    | @item n ps' h1 h2 h3 =>
      rw [List.getElem?_map] at h3
      cases e : ps[n]? with
      | none =>
        rw [e] at h3
        cases h3
      | some p =>
        rw [e] at h3
        cases h3
    | @order m ps' a b h0 h1 h2 h3 h4 =>
      have ep := some_inj h0
      subst ep
      have := up m a b (List.getElem?_eq_some_iff.mp h1).1 h1 h2
      omega
    | @many ps' h0 h1 h2 =>
      have ep := some_inj h0
      subst ep
      exact kb (by omega) d H' (sm.trans s) g
end K08
namespace K08
open PySem PySem.Spec PyProof.Rows L2 He Tw
/-- the row of what two operands give by a sign -/
def spJoined (K : Fg) : Sp := fun vs H Q E => ∃ (sign : Str) (x y : Addr) (xs ys : List V) (os1 os2 : List (Option (Int × Str))), vs = [.str sign, .ref x, .ref y] ∧ Src K H x xs os1 ∧ Src K H y ys os2 ∧
  (∀ (ps qs : List (Int × Str)), os1 = ps.map some → Up ps ps.length → ps.length ≤ 200 → os2 = qs.map some → Up qs qs.length → qs.length ≤ 200 → Few ps qs ∧ ∀ ns, Rks ps qs ns →
    ((takenL sign ps qs ns).length ≤ 200 → ∀ (a : Addr) (H' : Hp) (us : List V), H a = none → Same H H' → RowAt K H' a us → Its K H' us (takenL sign ps qs ns) → Q (.ref a) H') ∧
    (200 < (takenL sign ps qs ns).length → ∀ (d : Addr) (H' : Hp), Same H H' → H' d = some (.xd [("most", .int 200)]) → E (.ref (ga K "TooMany")) (some d) H')) ∧
  (∀ (z f : Str) (v : Int), Bad os1 z f v → ∀ (d : Addr) (H' : Hp), Same H H' → H' d = some (.xd [(f, .int v)]) → E (.ref (ga K z)) (some d) H') ∧
  (∀ (z f : Str) (v : Int), Bad os2 z f v → ∀ (d : Addr) (H' : Hp), Same H H' → H' d = some (.xd [(f, .int v)]) → E (.ref (ga K z)) (some d) H')
abbrev s_joined : Stmt := topS 26
abbrev N_joined : List Str := ["sign", "left", "right"]
theorem sc_joined : FnScope N_joined ["sign", "left", "right"] (defScope s_joined) := ⟨rfl, rfl, rfl, by decide +kernel, rfl, by decide +kernel, by decide +kernel⟩
theorem sub_made {H H' : Hp} {x dx : Addr} {o u : HO} (hx : H x = none) (hd : H dx = none) (hne : dx ≠ x) (b : But x (upd (upd H dx o) x u) H') : Same H H' := same_but (same_made (o := o) (u := u) hd hx hne) b hx
section
variable {P : Program} {w : World} {K : Fg} {mg : Str → Option Value} {base : Heap} {fd : Nat → FuncData}
theorem G_taken (D : DefsK K fd) (T : Txt K mg) : FnOk P w K mg base CX0 2 (ga K "taken") (fd 29) ["sign", "left", "right"] (spTaken K) :=
  ok_taken (D 29 _ rfl) (D 28 _ rfl) (T.fn (x := "by_rank") (by decide +kernel)) (D 30 _ rfl) (T.fn (x := "taken_of_rank") (by decide +kernel)) T
theorem ok_joined (D : DefsK K fd) (T : Txt K mg) : FnOk P w K mg base (L2.CX P w) 8 (ga K "joined") (fd 31) ["sign", "left", "right"] (spJoined K) := by
  have gR : mg "Row" = some (.ref (ga K "Row")) := T.cl (by decide +kernel)
  have gT := T.fn (x := "taken") (by decide +kernel)
  have GR : FnOk P w K mg base (L2.CX P w) 6 (ma K (ga K "Row") "__init__") (fd 6) ["self", "items"] (spRow K) := G_row D T
  have GT : FnOk P w K mg base CX0 2 (ga K "taken") (fd 29) ["sign", "left", "right"] (spTaken K) := G_taken D T
  have FT : FnP K "taken" "taken" s_taken (ga K "taken") (fd 29) := D 29 _ rfl
  have bT : Binds K (fd 29) ["sign", "left", "right"] [] := FT.bindsN fun _ _ _ _ _ _ us hl => match us, hl with | [_, _, _], _ => rfl
  have F : FnP K "joined" "joined" s_joined (ga K "joined") (fd 31) := D 31 _ rfl
  refine F.ok sc_joined (fun vs H Q E h => ?_) (fun cdv A outer s H vs Q E hr h => ?_)
  · obtain ⟨sign, x, y, xs, ys, os1, os2, rfl, _⟩ := h
    rfl
  · obtain ⟨sign, x, y, xs, ys, os1, os2, rfl, S1, S2, kg, kb1, kb2⟩ := h
    refine ⟨_, pss_one (ps_ret (pe_make (E := E) T.mkR GR (hr.mono (by decide)) rfl gR (bRow D) .nil (passes_call (takes_of rfl rfl rfl rfl) (fun _ _ _ _ h => h)) (pa_cons (pe_call GT (hr.mono (by decide)) rfl gT FT.kp bT .nil pass0 (pa_cons (pv 0)
      (pa_cons (pe_fld (pe_make (E := E) T.mkR GR (hr.mono (by decide)) rfl gR (bRow D) .nil (passes_call (takes_of rfl rfl rfl rfl) (fun _ _ _ _ h => h)) (pa_cons (pv 1) pa_nil)) rfl)
      (pa_cons (pe_fld (pe_make (E := E) T.mkR GR (hr.mono (by decide)) rfl gR (bRow D) .nil (passes_call (takes_of rfl rfl rfl rfl) (fun _ _ _ _ h => h)) (pa_cons (pv 2) pa_nil)) rfl) pa_nil)))) pa_nil))), ?_⟩
    refine ⟨_, rfl, _, rfl, fun x1 dx1 hx1 hd1 hne1 => ?_⟩
    refine ⟨x1, x, dx1, xs, os1, rfl, upd_same, S1.same (same_made hd1 hx1 hne1), fun ps e1 up1 few1 H1 us1 b1 r1 i1 => ?_, fun z f v bad d H' s' g' => kb1 z f v bad d H' ((same_made hd1 hx1 hne1).trans s') g'⟩
    have s1 := sub_made hx1 hd1 hne1 b1
    obtain ⟨dr1, t1, hr1, ht1⟩ := id r1
    refine ⟨rfl, x1, _, dr1, _, _, rfl, hr1, T.clsR, T.naR, rfl, ?_⟩
    refine ⟨_, rfl, fun x2 dx2 hx2 hd2 hne2 => ?_⟩
    refine ⟨x2, y, dx2, ys, os2, rfl, upd_same, S2.same (s1.trans (same_made hd2 hx2 hne2)), fun qs e2 up2 few2 H2 us2 b2 r2 i2 => ?_, fun z f v bad d H' s' g' => kb2 z f v bad d H' (s1.trans ((same_made hd2 hx2 hne2).trans s')) g'⟩
    have s2 := sub_made hx2 hd2 hne2 b2
    obtain ⟨dr2, t2, hr2, ht2⟩ := id r2
    obtain ⟨few, kk⟩ := kg ps qs e1 up1 few1 e2 up2 few2
    refine ⟨rfl, x2, _, dr2, _, _, rfl, hr2, T.clsR, T.naR, rfl, ?_⟩
    refine ⟨sign, t1, t2, us1, us2, ps, qs, rfl, SqT.of (s2 _ _ ht1), i1.same s2, by omega, SqT.of ht2, i2, by omega, few, fun l H3 us ns s3 f3 g3 R i3 => ?_⟩
    obtain ⟨kA, kB⟩ := kk ns R
    have s03 := s1.trans (s2.trans s3)
    have ln := takenL_len (sign := sign) R
    refine fun x3 dx3 hx3 hd3 hne3 => row_or hx3 hd3 hne3 (its_src (.inl (SqL.of g3)) i3 (by omega)) (asc_up (takenL_asc R.asc)) (fun few3 H4 zs s4 r4 i4 => ⟨rfl, ?_⟩) (fun big d H4 s4 g4 => kB big d H4 (s03.trans s4) g4)
    refine kA few3 x3 H4 zs ?_ (s03.trans s4) r4 i4
    cases q : H x3 with
    | none => rfl
    | some o =>
      rw [s03 _ _ q] at hx3
      cases hx3
end
end K08
/-! Tw: x op y with y a list or a tuple, x of an own class; y op x. -/
namespace Tw
open PySem PySem.Spec PyProof.Rows L2 He
section
variable {prog : Program} {w : World} {A : Around} {E : Value → Shared → Prop} {s : Shared} {K : PySem.W.Frag} {x C f f0 : Addr} {ox : Obj} {od : Option Obj} {op : Operator} {T : String} {b : Value} {Q : Value → Shared → Prop}
open PySem.W in
theorem bin_ownT (Y : K.In s.heap) (J : InstAt s.heap x ox C od) (Lb : Looks (model prog w) s.heap (typeOf b) (.type T)) (c : OwnB K C (PySem.dunder op.info.2) f) (t : BinT K C op T)
    (h : wpAny (model prog w) A (call (.ref f) [.ref x, b]) (PySem.W.CmpBack Q) E s) : wpAny (model prog w) A (binaryOp op (.ref x) b) Q E s := by
  obtain ⟨cd, rest, hcd, hm⟩ := ksp_first c.self1
  obtain ⟨fo, t1⟩ := t.l
  obtain ⟨ro, t2⟩ := t.r
  obtain ⟨rc, t3, t4⟩ := t.rc
  have tsub := t.sub
  have cat := c.at_
  have cfn := c.fn
  clear t c
  rcases hi : op.info with ⟨sym, nm⟩
  rw [hi] at t1 t2 t3 cat
  dsimp only at t1 t2 t3 cat
  have one := ksp_try Y J cat cfn h
  obtain ⟨hh, g, d, tt, os⟩ := s
  have Na : Looks (model prog w) hh (typeOf (.ref x)) (.ref C) := J.type
  have Nb : Looks (model prog w) hh (typeOf b) (.type T) := Lb
  have Nc : Looks (model prog w) hh (fillsNumberSlot (.ref C) nm) true := fills_K Y hcd hm cat
  have Nd : Looks (model prog w) hh (fillsNumberSlot (.type T) nm) ((fo.isSome && !isSeqSlot fo) || (ro.isSome && !isSeqSlot ro)) := ksp_fillsT Y t1 t2
  have Ne : Looks (model prog w) hh (isSubtype (.type T) (.ref C)) false := looks_subIn Y tsub
  have Nf : Looks (model prog w) hh (numberSlotInPython (.ref C) nm) true := ksp_inPy Y cat t3 t4
  have Ng : Looks (model prog w) hh (numberSlotInPython (.type T) nm) false := Looks.of_pure rfl
  have Nh : Looks (model prog w) hh (typeLookup (.type T) (dunderR nm)) ro := looks_findIn Y t2
  generalize ((fo.isSome && !isSeqSlot fo) || (ro.isSome && !isSeqSlot ro)) = far at Nd
  have nq : (Value.ref C == Value.type T) = false := Bool.eq_false_iff.mpr fun q => by cases beq_iff_eq.mp q
  simp only [binaryOp, hi]
  refine wpAny_holding (wpAny_bind ?_)
  unfold binaryOp1
  refine wpAny_bind (Na.at (wpAny_bind (Nb.at (wpAny_bind (Nc.at ?_)))))
  simp only [nq, Bool.false_eq_true, if_false]
  cases far <;>
  · ksp_lk
    refine wpAny_mono one (fun r s' hr' => ?_) fun _ _ e => e
    obtain ⟨v, rfl, hq⟩ := hr'
    ksp_lk
    exact hq
/-- what is asked that the mirrored operator is called -/
structure SeqT (K : PySem.W.Frag) (C : Addr) (op : Operator) (T : String) : Prop where
  no : ∃ fo ro, PySem.W.findIn K (.type T) (PySem.dunder op.info.2) = some fo ∧ PySem.W.findIn K (.type T) (PySem.dunderR op.info.2) = some ro ∧ ((fo.isSome && !isSeqSlot fo) || (ro.isSome && !isSeqSlot ro)) = false
  sub : PySem.W.subIn K (.ref C) (.type T) = some false
open PySem.W in
theorem bin_refT (Y : K.In s.heap) (J : InstAt s.heap x ox C od) (Lb : Looks (model prog w) s.heap (typeOf b) (.type T)) (c : OwnB K C (PySem.dunderR op.info.2) f) (c0 : OwnB K C (PySem.dunder op.info.2) f0) (t : SeqT K C op T)
    (h : wpAny (model prog w) A (call (.ref f) [.ref x, b]) (PySem.W.CmpBack Q) E s) : wpAny (model prog w) A (binaryOp op b (.ref x)) Q E s := by
  obtain ⟨cd, rest, hcd, hm⟩ := ksp_first c.self1
  obtain ⟨fo, ro, t1, t2, t3⟩ := t.no
  have tsub := t.sub
  have cat := c.at_
  have cfn := c.fn
  have cat0 := c0.at_
  clear t c c0
  rcases hi : op.info with ⟨sym, nm⟩
  rw [hi] at t1 t2 cat cat0
  dsimp only at t1 t2 cat cat0
  have one := ksp_try Y J cat cfn h
  obtain ⟨hh, g, d, tt, os⟩ := s
  have Na : Looks (model prog w) hh (typeOf (.ref x)) (.ref C) := J.type
  have Nb : Looks (model prog w) hh (typeOf b) (.type T) := Lb
  have Nc : Looks (model prog w) hh (fillsNumberSlot (.ref C) nm) true := fills_K Y hcd hm cat0
  have Nd : Looks (model prog w) hh (fillsNumberSlot (.type T) nm) ((fo.isSome && !isSeqSlot fo) || (ro.isSome && !isSeqSlot ro)) := ksp_fillsT Y t1 t2
  rw [t3] at Nd
  have nq : (Value.type T == Value.ref C) = false := Bool.eq_false_iff.mpr fun q => by cases beq_iff_eq.mp q
  simp only [binaryOp, hi]
  refine wpAny_holding (wpAny_bind ?_)
  unfold binaryOp1
  refine wpAny_bind (Nb.at (wpAny_bind (Na.at (wpAny_bind (Nd.at ?_)))))
  simp only [nq, Bool.false_eq_true, if_false]
  ksp_lk
  refine wpAny_mono one (fun r s' hr' => ?_) fun _ _ e => e
  obtain ⟨v, rfl, hq⟩ := hr'
  ksp_lk
  exact hq
end
section
variable {X : Cx} {CX : CXT} {k : Nat} {f f0 C : Addr} {fd : FuncData} {ps : List Str} {sp : Sp} {E : XK} {op : Operator}
theorem ty_looks {pins : List (Addr × Obj)} {σ : L2.St} {H : Hp} {s : Shared} {y : V} {u t : Value} (I : Inv X pins σ H s) (ry : RelV y u) (ty : TyX X.K H y t) (M : Model) : PySem.W.Looks M s.heap (typeOf u) t := by
  obtain ⟨P, Z, p, _⟩ := kit_of I ry ty
  exact Z.ty M s.heap I.kIn p
/-- x op y, x of the class at C, y of it too or of a built-in class -/
def rBinX (K : PySem.W.Frag) (C : Addr) (Ts : List String) (sp : Sp) (E : XK) : R2 := fun x y H Q => ∃ (a dx : Addr) (fs : List (Str × V)) (t : Value), x = .ref a ∧ H a = some (.ins C dx fs) ∧ TyX K H y t ∧ (t = .ref C ∨ ∃ T ∈ Ts, t = .type T) ∧ sp [x, y] H Q E
theorem op_binX {Ts : List String} (c : OwnB X.K C (PySem.dunder op.info.2) f) (t : ∀ T ∈ Ts, BinT X.K C op T) (F : FnOk X.prog X.w X.K X.mg X.base CX k f fd ps sp) (hr : Room k X.A) (hb : Binds X.K fd ps []) (hx : Passes CX X E) : OpR X (binaryOp op) (rBinX X.K C Ts sp E) := by
  intro pins s σ H x y v u Q I rx ry h
  obtain ⟨a, dx, fs, ty, rfl, ea, hty, hT, q⟩ := h
  cases (show v = Value.ref a from rx)
  obtain ⟨od, ox, J⟩ := inst_at I ea
  have Lb := ty_looks I ry hty (model X.prog X.w)
  have fin : wpAny (model X.prog X.w) X.A (call (.ref f) [.ref a, u]) (PySem.W.CmpBack (EP X pins σ Q)) X.xe s := by
    refine wpAny_mono (run_fn (dvs := []) (ds := []) (us := [.ref a, u]) (vs := [.ref a, y]) F hr hb .nil hx I (.cons rfl (.cons ry .nil)) q) (fun w s' z => ?_) fun _ _ x => x
    obtain ⟨z', H', I', rz, qz⟩ := z
    exact SlX.cmpback rz ⟨z', H', I', rz, qz⟩
  rcases hT with rfl | ⟨T, hm, rfl⟩
  · obtain ⟨m, fr⟩ := I.fr
    exact PySem.W.binop_K fr I.ok.mod.kin J Lb c.self1 c.at_ c.fn fin
  · exact bin_ownT I.kIn J Lb c (t T hm) fin
/-- y op x, x of the class at C, y a list or a tuple -/
def rRefX (K : PySem.W.Frag) (C : Addr) (Ts : List String) (sp : Sp) (E : XK) : R2 := fun x y H Q => ∃ (a dx : Addr) (fs : List (Str × V)) (T : String), y = .ref a ∧ H a = some (.ins C dx fs) ∧ TyX K H x (.type T) ∧ T ∈ Ts ∧ sp [y, x] H Q E
theorem op_refX {Ts : List String} (c : OwnB X.K C (PySem.dunderR op.info.2) f) (c0 : OwnB X.K C (PySem.dunder op.info.2) f0) (t : ∀ T ∈ Ts, SeqT X.K C op T) (F : FnOk X.prog X.w X.K X.mg X.base CX k f fd ps sp) (hr : Room k X.A) (hb : Binds X.K fd ps []) (hx : Passes CX X E) : OpR X (binaryOp op) (rRefX X.K C Ts sp E) := by
  intro pins s σ H x y v u Q I rx ry h
  obtain ⟨a, dx, fs, T, rfl, ea, hty, hT, q⟩ := h
  cases (show u = Value.ref a from ry)
  obtain ⟨od, ox, J⟩ := inst_at I ea
  refine bin_refT I.kIn J (ty_looks I rx hty (model X.prog X.w)) c c0 (t T hT) ?_
  refine wpAny_mono (run_fn (dvs := []) (ds := []) (us := [.ref a, v]) (vs := [.ref a, x]) F hr hb .nil hx I (.cons rfl (.cons rx .nil)) q) (fun w s' z => ?_) fun _ _ x => x
  obtain ⟨z', H', I', rz, qz⟩ := z
  exact SlX.cmpback rz ⟨z', H', I', rz, qz⟩
/-- either -/
theorem op_or {o : Value → Value → Sem Value} {r1 r2 : R2} (h1 : OpR X o r1) (h2 : OpR X o r2) : OpR X o (fun x y H Q => r1 x y H Q ∨ r2 x y H Q) := fun pins s σ H x y v u Q I rx ry h => h.elim (h1 pins s σ H x y v u Q I rx ry) (h2 pins s σ H x y v u Q I rx ry)
end
end Tw
namespace K08
open PySem PySem.Spec PyProof.Rows L2 He Tw
theorem pe_no {X : Cx} {e : Expr} : PE X e (fun _ _ _ => False) := ⟨fun _ _ _ _ _ _ h => h.elim⟩
/-- a value that the operators take -/
inductive Opd (K : Fg) (H : Hp) (y : Addr) : Value → Prop where
  | row {dx : Addr} {fs : List (Str × V)} (h : H y = some (.ins (ga K "Row") dx fs)) : Opd K H y (.ref (ga K "Row"))
  | lst {xs : List V} (h : H y = some (.lst xs)) : Opd K H y (.type "list")
  | tup {xs : List V} (h : H y = some (.tup xs)) : Opd K H y (.type "tuple")
section
variable {K : Fg} {mg : Str → Option Value}
theorem Opd.same {H H' : Hp} {y : Addr} {t : Value} (e : Same H H') : Opd K H y t → Opd K H' y t
  | .row h => .row (e _ _ h)
  | .lst h => .lst (e _ _ h)
  | .tup h => .tup (e _ _ h)
theorem Opd.ty (T : Txt K mg) {H : Hp} {y : Addr} {t : Value} (h : Opd K H y t) : TyX K H (.ref y) t := by
  cases h with
  | row h => exact .base (.ins h T.clsR (T.ob (by decide +kernel)).2 T.xo.hn T.xo.ht (T.ob (by decide +kernel)).1)
  | lst h => exact .base (.lst h)
  | tup h => exact .base (.tup h)
theorem Opd.kit (T : Txt K mg) {H : Hp} {y : Addr} {t : Value} (h : Opd K H y t) : PySem.W.kitAny K t [.ref (ga K "Row"), .type "list", .type "tuple"] = some true := by
  have z : PySem.W.kitOne K (.type "tuple") (.type "list") = some false := rfl
  have z1 : PySem.W.kitOne K (.type "list") (.type "list") = some true := rfl
  have z2 : PySem.W.kitOne K (.type "tuple") (.type "tuple") = some true := rfl
  have z3 := T.kitR (t := "list") (by decide +kernel)
  have z4 := T.kitR (t := "tuple") (by decide +kernel)
  have z5 := T.kitRR
  cases h with
  | row h => simp only [PySem.W.kitAny, z5]
  | lst h => simp only [PySem.W.kitAny, z3, z1]
  | tup h => simp only [PySem.W.kitAny, z4, z, z2]
end
/-- row op= y -/
def spIn (K : Fg) (sign : Str) : Sp := fun vs H Q E => ∃ (a y : Addr) (us0 xs : List V) (ps : List (Int × Str)) (os : List (Option (Int × Str))) (t : Value), vs = [.ref a, .ref y] ∧ RowAt K H a us0 ∧ Its K H us0 ps ∧ Up ps ps.length ∧ ps.length ≤ 200 ∧ Opd K H y t ∧ Src K H y xs os ∧
  (∀ qs, os = qs.map some → Up qs qs.length → qs.length ≤ 200 → Few ps qs ∧ ∀ ns, Rks ps qs ns →
    ((takenL sign ps qs ns).length ≤ 200 → ∀ (H' : Hp) (us : List V), But a H H' → RowAt K H' a us → Its K H' us (takenL sign ps qs ns) → Q (.ref a) H') ∧
    (200 < (takenL sign ps qs ns).length → ∀ (d : Addr) (H' : Hp), Same H H' → H' d = some (.xd [("most", .int 200)]) → E (.ref (ga K "TooMany")) (some d) H')) ∧
  (∀ (z f : Str) (v : Int), Bad os z f v → ∀ (d : Addr) (H' : Hp), Same H H' → H' d = some (.xd [(f, .int v)]) → E (.ref (ga K z)) (some d) H')
theorem row_seq {K : Fg} {H : Hp} {a : Addr} {us : List V} (h : RowAt K H a us) : Seq K H a us := .inr (.inr h)
theorem bad_up {ps : List (Int × Str)} (up : Up ps ps.length) (few : ps.length ≤ 200) {z f : Str} {v : Int} (bad : Bad (ps.map some) z f v) : False := by
  cases bad with
  | @item n ps' h1 h2 h3 =>
    rw [List.getElem?_map] at h3
    cases e : ps[n]? with
    | none =>
      rw [e] at h3
      cases h3
    | some p =>
      rw [e] at h3
      cases h3
  | @order m ps' a b h0 h1 h2 h3 h4 =>
    have ep := some_inj h0
    subst ep
    have := up m a b (List.getElem?_eq_some_iff.mp h1).1 h1 h2
    omega
  | @many ps' h0 h1 h2 =>
    have ep := some_inj h0
    subst ep
    omega
theorem its_put1 {K : Fg} {H : Hp} {a dx t : Addr} {fs : List (Str × V)} {o : HO} (g : H a = some (.ins (ga K "Row") dx [("state", .ref t)])) {ys : List V} {ps : List (Int × Str)} (h : Its K H ys ps) : Its K (upd H a o) ys ps :=
  its_put (fun dx i z e => by
    rw [g] at e
    exact nomatch (HO.ins.inj (Option.some.inj e)).2.2) h
abbrev N_in : List Str := ["self", "other"]
def signs : List Str := ["+", "|", "&", "-", "^"]
theorem spJoined.same {K : Fg} {vs : List V} {H H1 : Hp} {Q : VK} {E : XK} (s : Same H H1) (h : spJoined K vs H Q E) : spJoined K vs H1 Q E := by
  obtain ⟨sign, x, y, xs, ys, os1, os2, rfl, S1, S2, kg, k1, k2⟩ := h
  refine ⟨sign, x, y, xs, ys, os1, os2, rfl, S1.same s, S2.same s, fun ps qs e1 u1 f1 e2 u2 f2 => ?_, fun z f v b d H' s' g => k1 z f v b d H' (s.trans s') g, fun z f v b d H' s' g => k2 z f v b d H' (s.trans s') g⟩
  obtain ⟨few, kk⟩ := kg ps qs e1 u1 f1 e2 u2 f2
  refine ⟨few, fun ns R => ⟨fun f3 a H' us ha s' r i => (kk ns R).1 f3 a H' us ?_ (s.trans s') r i, fun b d H' s' g => (kk ns R).2 b d H' (s.trans s') g⟩⟩
  cases q : H a with
  | none => rfl
  | some o =>
    rw [s _ _ q] at ha
    cases ha
def lst2 (t : Value) : Prop := t = .type "list" ∨ t = .type "tuple"
/-- row op y, a new row -/
def spBin (K : Fg) (sign : Str) : Sp := fun vs H Q E => ∃ (a y : Addr) (t : Value), vs = [.ref a, .ref y] ∧ Opd K H y t ∧ spJoined K [.str sign, .ref a, .ref y] H Q E
/-- y op row, y a list or a tuple -/
def spRef (K : Fg) (sign : Str) : Sp := fun vs H Q E => ∃ (a y : Addr) (t : Value), vs = [.ref a, .ref y] ∧ Opd K H y t ∧ lst2 t ∧ spJoined K [.str sign, .ref y, .ref a] H Q E
section
variable {P : Program} {w : World} {K : Fg} {mg : Str → Option Value} {base : Heap} {fd : Nat → FuncData}
abbrev s_iadd : Stmt := inClass (topS 25) 17
theorem sc_iadd : FnScope N_in ["self", "other"] (defScope s_iadd) := ⟨rfl, rfl, rfl, by decide +kernel, rfl, by decide +kernel, by decide +kernel⟩
theorem ok_iadd (D : DefsK K fd) (T : Txt K mg) : FnOk P w K mg base (L2.CX P w) 9 (ma K (ga K "Row") "__iadd__") (fd 9) ["self", "other"] (spIn K "+") := by
  have zisi : mg "isinstance" = none := T.bl (by decide +kernel)
  have zlist : mg "list" = none := T.bl (by decide +kernel)
  have ztup : mg "tuple" = none := T.bl (by decide +kernel)
  have gR : mg "Row" = some (.ref (ga K "Row")) := T.cl (by decide +kernel)
  have gJ := T.fn (x := "joined") (by decide +kernel)
  have FJ : FnP K "joined" "joined" s_joined (ga K "joined") (fd 31) := D 31 _ rfl
  have GJ : FnOk P w K mg base (L2.CX P w) 8 (ga K "joined") (fd 31) ["sign", "left", "right"] (spJoined K) := ok_joined D T
  have bJ : Binds K (fd 31) ["sign", "left", "right"] [] := FJ.bindsN fun _ _ _ _ _ _ us hl => match us, hl with | [_, _, _], _ => rfl
  have F : FnP K "__iadd__" "Row.__iadd__" s_iadd (ma K (ga K "Row") "__iadd__") (fd 9) := D 9 _ rfl
  refine F.ok sc_iadd (fun vs H Q E h => ?_) (fun cdv A outer s H vs Q E hr h => ?_)
  · obtain ⟨a, y, us0, xs, ps, os, t, rfl, _⟩ := h
    rfl
  · obtain ⟨a, y, us0, xs, ps, os, t, rfl, ra, ia, up, few, op, S, kg, kb⟩ := h
    refine ⟨_, (pss_cons (ps_if (pt_not (pt_val (pe_callB call_isAT (by rfl) zisi (by decide +kernel) (pa_cons (pv 1) (pa_cons (pe_tupN (pa_cons (pe_glob (v := .ref (ga K "Row")) rfl gR rfl) (pa_cons (pe_bltn (v := .ty "list") (by rfl) zlist (by decide +kernel) rfl) (pa_cons (pe_bltn (v := .ty "tuple") (by rfl) ztup (by decide +kernel) rfl) pa_nil)))) pa_nil))))) (pss_one (ps_ret pe_no)) pss_nil)
    (pss_cons (ps_fld (pv 0) (pe_fld (pe_call (E := E) GJ (hr.mono (by decide)) rfl gJ FJ.kp bJ .nil (passes_call (takes_of rfl rfl rfl rfl) (fun _ _ _ _ h => h)) (pa_cons pe_str (pa_cons (pv 0) (pa_cons (pv 1) pa_nil)))) rfl) rfl)
    (pss_one (ps_ret (pv 0))))), ?_⟩
    obtain ⟨dx, ta, ha, hta⟩ := id ra
    refine ⟨_, rfl, sz1000 (by show 3 ≤ 1000; decide), fun tp H1 f1 s1 g1 => ?_⟩
    refine ⟨.ref y, tp, _, t, [.ref (ga K "Row"), .type "list", .type "tuple"], true, rfl, g1, .cons (.own _) (.cons (.ty _) (.cons (.ty _) .nil)), .inl ((op.same s1).ty T), op.kit T, _, rfl, ?_⟩
    refine iteF ?_
    have la := its_len ia
    refine ⟨_, rfl, _, rfl, "+", a, y, us0, xs, ps.map some, os, rfl, (its_src (row_seq ra) ia (by omega)).same s1, S.same s1, fun ps' qs e1 up1 few1 e2 up2 few2 => ?_, fun z f v bad => (bad_up up few bad).elim, fun z f v bad d H' s' g' => kb z f v bad d H' (s1.trans s') g'⟩
    have ep := some_inj e1
    subst ep
    obtain ⟨k1, k2⟩ := kg qs e2 up2 few2
    refine ⟨k1, fun ns R => ⟨fun few3 x H2 us n2 s2 r2 i2 => ?_, fun big d H2 s2 g2 => (k2 ns R).2 big d H2 (s1.trans s2) g2⟩⟩
    obtain ⟨dr, tr, hr2, htr⟩ := r2
    have s12 := s1.trans s2
    have ha2 := s12 _ _ ha
    refine ⟨x, _, dr, _, _, rfl, hr2, T.clsR, T.naR, rfl, ?_⟩
    refine ⟨_, rfl, a, _, dx, _, rfl, ha2, T.clsR, T.naR, (by show 1 < 1000; decide), ?_⟩
    have nt : tr ≠ a := fun z => by
      rw [z, ha2] at htr
      cases htr
    refine ⟨_, rfl, (k2 ns R).1 few3 _ us ((But.of s12).trans But.upd) ⟨dx, tr, upd_same, by rw [upd_ne nt]; exact htr⟩ (its_put1 (fs := []) ha2 i2)⟩
abbrev s_add : Stmt := inClass (topS 25) 15
theorem sc_add : FnScope N_in ["self", "other"] (defScope s_add) := ⟨rfl, rfl, rfl, by decide +kernel, rfl, by decide +kernel, by decide +kernel⟩
theorem ok_add (D : DefsK K fd) (T : Txt K mg) : FnOk P w K mg base (L2.CX P w) 9 (ma K (ga K "Row") "__add__") (fd 10) ["self", "other"] (spBin K "+") := by
  have zisi : mg "isinstance" = none := T.bl (by decide +kernel)
  have zlist : mg "list" = none := T.bl (by decide +kernel)
  have ztup : mg "tuple" = none := T.bl (by decide +kernel)
  have gR : mg "Row" = some (.ref (ga K "Row")) := T.cl (by decide +kernel)
  have gJ := T.fn (x := "joined") (by decide +kernel)
  have FJ : FnP K "joined" "joined" s_joined (ga K "joined") (fd 31) := D 31 _ rfl
  have GJ : FnOk P w K mg base (L2.CX P w) 8 (ga K "joined") (fd 31) ["sign", "left", "right"] (spJoined K) := ok_joined D T
  have bJ : Binds K (fd 31) ["sign", "left", "right"] [] := FJ.bindsN fun _ _ _ _ _ _ us hl => match us, hl with | [_, _, _], _ => rfl
  have F : FnP K "__add__" "Row.__add__" s_add (ma K (ga K "Row") "__add__") (fd 10) := D 10 _ rfl
  refine F.ok sc_add (fun vs H Q E h => ?_) (fun cdv A outer s H vs Q E hr h => ?_)
  · obtain ⟨a, y, t, rfl, _⟩ := h
    rfl
  · obtain ⟨a, y, t, rfl, op, j⟩ := h
    refine ⟨_, (pss_cons (ps_if (pt_not (pt_val (pe_callB call_isAT (by rfl) zisi (by decide +kernel) (pa_cons (pv 1) (pa_cons (pe_tupN (pa_cons (pe_glob (v := .ref (ga K "Row")) rfl gR rfl) (pa_cons (pe_bltn (v := .ty "list") (by rfl) zlist (by decide +kernel) rfl) (pa_cons (pe_bltn (v := .ty "tuple") (by rfl) ztup (by decide +kernel) rfl) pa_nil)))) pa_nil))))) (pss_one (ps_ret pe_no)) pss_nil)
    (pss_one (ps_ret (pe_call (E := E) GJ (hr.mono (by decide)) rfl gJ FJ.kp bJ .nil (passes_call (takes_of rfl rfl rfl rfl) (fun _ _ _ _ h => h)) (pa_cons pe_str (pa_cons (pv 0) (pa_cons (pv 1) pa_nil))))))), ?_⟩
    refine ⟨_, rfl, sz1000 (by show 3 ≤ 1000; decide), fun tp H1 f1 s1 g1 => ?_⟩
    refine ⟨.ref y, tp, _, t, [.ref (ga K "Row"), .type "list", .type "tuple"], true, rfl, g1, .cons (.own _) (.cons (.ty _) (.cons (.ty _) .nil)), .inl ((op.same s1).ty T), op.kit T, _, rfl, ?_⟩
    refine iteF ?_
    exact ⟨_, rfl, _, rfl, j.same s1⟩
abbrev s_radd : Stmt := inClass (topS 25) 16
theorem sc_radd : FnScope N_in ["self", "other"] (defScope s_radd) := ⟨rfl, rfl, rfl, by decide +kernel, rfl, by decide +kernel, by decide +kernel⟩
theorem ok_radd (D : DefsK K fd) (T : Txt K mg) : FnOk P w K mg base (L2.CX P w) 9 (ma K (ga K "Row") "__radd__") (fd 11) ["self", "other"] (spRef K "+") := by
  have zisi : mg "isinstance" = none := T.bl (by decide +kernel)
  have zlist : mg "list" = none := T.bl (by decide +kernel)
  have ztup : mg "tuple" = none := T.bl (by decide +kernel)
  have gR : mg "Row" = some (.ref (ga K "Row")) := T.cl (by decide +kernel)
  have gJ := T.fn (x := "joined") (by decide +kernel)
  have FJ : FnP K "joined" "joined" s_joined (ga K "joined") (fd 31) := D 31 _ rfl
  have GJ : FnOk P w K mg base (L2.CX P w) 8 (ga K "joined") (fd 31) ["sign", "left", "right"] (spJoined K) := ok_joined D T
  have bJ : Binds K (fd 31) ["sign", "left", "right"] [] := FJ.bindsN fun _ _ _ _ _ _ us hl => match us, hl with | [_, _, _], _ => rfl
  have F : FnP K "__radd__" "Row.__radd__" s_radd (ma K (ga K "Row") "__radd__") (fd 11) := D 11 _ rfl
  refine F.ok sc_radd (fun vs H Q E h => ?_) (fun cdv A outer s H vs Q E hr h => ?_)
  · obtain ⟨a, y, t, rfl, _⟩ := h
    rfl
  · obtain ⟨a, y, t, rfl, op, hl, j⟩ := h
    refine ⟨_, (pss_cons (ps_if (pt_not (pt_val (pe_callB call_isAT (by rfl) zisi (by decide +kernel) (pa_cons (pv 1) (pa_cons (pe_tupN (pa_cons (pe_bltn (v := .ty "list") (by rfl) zlist (by decide +kernel) rfl) (pa_cons (pe_bltn (v := .ty "tuple") (by rfl) ztup (by decide +kernel) rfl) pa_nil))) pa_nil))))) (pss_one (ps_ret pe_no)) pss_nil)
    (pss_one (ps_ret (pe_call (E := E) GJ (hr.mono (by decide)) rfl gJ FJ.kp bJ .nil (passes_call (takes_of rfl rfl rfl rfl) (fun _ _ _ _ h => h)) (pa_cons pe_str (pa_cons (pv 1) (pa_cons (pv 0) pa_nil))))))), ?_⟩
    refine ⟨_, rfl, sz1000 (by show 2 ≤ 1000; decide), fun tp H1 f1 s1 g1 => ?_⟩
    have kit : PySem.W.kitAny K t [.type "list", .type "tuple"] = some true := by
      rcases hl with rfl | rfl
      · rfl
      · rfl
    refine ⟨.ref y, tp, _, t, [.type "list", .type "tuple"], true, rfl, g1, .cons (.ty _) (.cons (.ty _) .nil), .inl ((op.same s1).ty T), kit, _, rfl, ?_⟩
    refine iteF ?_
    exact ⟨_, rfl, _, rfl, j.same s1⟩
abbrev s_or : Stmt := inClass (topS 25) 18
theorem sc_or : FnScope N_in ["self", "other"] (defScope s_or) := ⟨rfl, rfl, rfl, by decide +kernel, rfl, by decide +kernel, by decide +kernel⟩
theorem ok_or (D : DefsK K fd) (T : Txt K mg) : FnOk P w K mg base (L2.CX P w) 9 (ma K (ga K "Row") "__or__") (fd 12) ["self", "other"] (spBin K "|") := by
  have zisi : mg "isinstance" = none := T.bl (by decide +kernel)
  have zlist : mg "list" = none := T.bl (by decide +kernel)
  have ztup : mg "tuple" = none := T.bl (by decide +kernel)
  have gR : mg "Row" = some (.ref (ga K "Row")) := T.cl (by decide +kernel)
  have gJ := T.fn (x := "joined") (by decide +kernel)
  have FJ : FnP K "joined" "joined" s_joined (ga K "joined") (fd 31) := D 31 _ rfl
  have GJ : FnOk P w K mg base (L2.CX P w) 8 (ga K "joined") (fd 31) ["sign", "left", "right"] (spJoined K) := ok_joined D T
  have bJ : Binds K (fd 31) ["sign", "left", "right"] [] := FJ.bindsN fun _ _ _ _ _ _ us hl => match us, hl with | [_, _, _], _ => rfl
  have F : FnP K "__or__" "Row.__or__" s_or (ma K (ga K "Row") "__or__") (fd 12) := D 12 _ rfl
  refine F.ok sc_or (fun vs H Q E h => ?_) (fun cdv A outer s H vs Q E hr h => ?_)
  · obtain ⟨a, y, t, rfl, _⟩ := h
    rfl
  · obtain ⟨a, y, t, rfl, op, j⟩ := h
    refine ⟨_, (pss_cons (ps_if (pt_not (pt_val (pe_callB call_isAT (by rfl) zisi (by decide +kernel) (pa_cons (pv 1) (pa_cons (pe_tupN (pa_cons (pe_glob (v := .ref (ga K "Row")) rfl gR rfl) (pa_cons (pe_bltn (v := .ty "list") (by rfl) zlist (by decide +kernel) rfl) (pa_cons (pe_bltn (v := .ty "tuple") (by rfl) ztup (by decide +kernel) rfl) pa_nil)))) pa_nil))))) (pss_one (ps_ret pe_no)) pss_nil)
    (pss_one (ps_ret (pe_call (E := E) GJ (hr.mono (by decide)) rfl gJ FJ.kp bJ .nil (passes_call (takes_of rfl rfl rfl rfl) (fun _ _ _ _ h => h)) (pa_cons pe_str (pa_cons (pv 0) (pa_cons (pv 1) pa_nil))))))), ?_⟩
    refine ⟨_, rfl, sz1000 (by show 3 ≤ 1000; decide), fun tp H1 f1 s1 g1 => ?_⟩
    refine ⟨.ref y, tp, _, t, [.ref (ga K "Row"), .type "list", .type "tuple"], true, rfl, g1, .cons (.own _) (.cons (.ty _) (.cons (.ty _) .nil)), .inl ((op.same s1).ty T), op.kit T, _, rfl, ?_⟩
    refine iteF ?_
    exact ⟨_, rfl, _, rfl, j.same s1⟩
abbrev s_ror : Stmt := inClass (topS 25) 19
theorem sc_ror : FnScope N_in ["self", "other"] (defScope s_ror) := ⟨rfl, rfl, rfl, by decide +kernel, rfl, by decide +kernel, by decide +kernel⟩
theorem ok_ror (D : DefsK K fd) (T : Txt K mg) : FnOk P w K mg base (L2.CX P w) 9 (ma K (ga K "Row") "__ror__") (fd 13) ["self", "other"] (spRef K "|") := by
  have zisi : mg "isinstance" = none := T.bl (by decide +kernel)
  have zlist : mg "list" = none := T.bl (by decide +kernel)
  have ztup : mg "tuple" = none := T.bl (by decide +kernel)
  have gR : mg "Row" = some (.ref (ga K "Row")) := T.cl (by decide +kernel)
  have gJ := T.fn (x := "joined") (by decide +kernel)
  have FJ : FnP K "joined" "joined" s_joined (ga K "joined") (fd 31) := D 31 _ rfl
  have GJ : FnOk P w K mg base (L2.CX P w) 8 (ga K "joined") (fd 31) ["sign", "left", "right"] (spJoined K) := ok_joined D T
  have bJ : Binds K (fd 31) ["sign", "left", "right"] [] := FJ.bindsN fun _ _ _ _ _ _ us hl => match us, hl with | [_, _, _], _ => rfl
  have F : FnP K "__ror__" "Row.__ror__" s_ror (ma K (ga K "Row") "__ror__") (fd 13) := D 13 _ rfl
  refine F.ok sc_ror (fun vs H Q E h => ?_) (fun cdv A outer s H vs Q E hr h => ?_)
  · obtain ⟨a, y, t, rfl, _⟩ := h
    rfl
  · obtain ⟨a, y, t, rfl, op, hl, j⟩ := h
    refine ⟨_, (pss_cons (ps_if (pt_not (pt_val (pe_callB call_isAT (by rfl) zisi (by decide +kernel) (pa_cons (pv 1) (pa_cons (pe_tupN (pa_cons (pe_bltn (v := .ty "list") (by rfl) zlist (by decide +kernel) rfl) (pa_cons (pe_bltn (v := .ty "tuple") (by rfl) ztup (by decide +kernel) rfl) pa_nil))) pa_nil))))) (pss_one (ps_ret pe_no)) pss_nil)
    (pss_one (ps_ret (pe_call (E := E) GJ (hr.mono (by decide)) rfl gJ FJ.kp bJ .nil (passes_call (takes_of rfl rfl rfl rfl) (fun _ _ _ _ h => h)) (pa_cons pe_str (pa_cons (pv 1) (pa_cons (pv 0) pa_nil))))))), ?_⟩
    refine ⟨_, rfl, sz1000 (by show 2 ≤ 1000; decide), fun tp H1 f1 s1 g1 => ?_⟩
    have kit : PySem.W.kitAny K t [.type "list", .type "tuple"] = some true := by
      rcases hl with rfl | rfl
      · rfl
      · rfl
    refine ⟨.ref y, tp, _, t, [.type "list", .type "tuple"], true, rfl, g1, .cons (.ty _) (.cons (.ty _) .nil), .inl ((op.same s1).ty T), kit, _, rfl, ?_⟩
    refine iteF ?_
    exact ⟨_, rfl, _, rfl, j.same s1⟩
abbrev s_and : Stmt := inClass (topS 25) 21
theorem sc_and : FnScope N_in ["self", "other"] (defScope s_and) := ⟨rfl, rfl, rfl, by decide +kernel, rfl, by decide +kernel, by decide +kernel⟩
theorem ok_and (D : DefsK K fd) (T : Txt K mg) : FnOk P w K mg base (L2.CX P w) 9 (ma K (ga K "Row") "__and__") (fd 14) ["self", "other"] (spBin K "&") := by
  have zisi : mg "isinstance" = none := T.bl (by decide +kernel)
  have zlist : mg "list" = none := T.bl (by decide +kernel)
  have ztup : mg "tuple" = none := T.bl (by decide +kernel)
  have gR : mg "Row" = some (.ref (ga K "Row")) := T.cl (by decide +kernel)
  have gJ := T.fn (x := "joined") (by decide +kernel)
  have FJ : FnP K "joined" "joined" s_joined (ga K "joined") (fd 31) := D 31 _ rfl
  have GJ : FnOk P w K mg base (L2.CX P w) 8 (ga K "joined") (fd 31) ["sign", "left", "right"] (spJoined K) := ok_joined D T
  have bJ : Binds K (fd 31) ["sign", "left", "right"] [] := FJ.bindsN fun _ _ _ _ _ _ us hl => match us, hl with | [_, _, _], _ => rfl
  have F : FnP K "__and__" "Row.__and__" s_and (ma K (ga K "Row") "__and__") (fd 14) := D 14 _ rfl
  refine F.ok sc_and (fun vs H Q E h => ?_) (fun cdv A outer s H vs Q E hr h => ?_)
  · obtain ⟨a, y, t, rfl, _⟩ := h
    rfl
  · obtain ⟨a, y, t, rfl, op, j⟩ := h
    refine ⟨_, (pss_cons (ps_if (pt_not (pt_val (pe_callB call_isAT (by rfl) zisi (by decide +kernel) (pa_cons (pv 1) (pa_cons (pe_tupN (pa_cons (pe_glob (v := .ref (ga K "Row")) rfl gR rfl) (pa_cons (pe_bltn (v := .ty "list") (by rfl) zlist (by decide +kernel) rfl) (pa_cons (pe_bltn (v := .ty "tuple") (by rfl) ztup (by decide +kernel) rfl) pa_nil)))) pa_nil))))) (pss_one (ps_ret pe_no)) pss_nil)
    (pss_one (ps_ret (pe_call (E := E) GJ (hr.mono (by decide)) rfl gJ FJ.kp bJ .nil (passes_call (takes_of rfl rfl rfl rfl) (fun _ _ _ _ h => h)) (pa_cons pe_str (pa_cons (pv 0) (pa_cons (pv 1) pa_nil))))))), ?_⟩
    refine ⟨_, rfl, sz1000 (by show 3 ≤ 1000; decide), fun tp H1 f1 s1 g1 => ?_⟩
    refine ⟨.ref y, tp, _, t, [.ref (ga K "Row"), .type "list", .type "tuple"], true, rfl, g1, .cons (.own _) (.cons (.ty _) (.cons (.ty _) .nil)), .inl ((op.same s1).ty T), op.kit T, _, rfl, ?_⟩
    refine iteF ?_
    exact ⟨_, rfl, _, rfl, j.same s1⟩
abbrev s_rand : Stmt := inClass (topS 25) 22
theorem sc_rand : FnScope N_in ["self", "other"] (defScope s_rand) := ⟨rfl, rfl, rfl, by decide +kernel, rfl, by decide +kernel, by decide +kernel⟩
theorem ok_rand (D : DefsK K fd) (T : Txt K mg) : FnOk P w K mg base (L2.CX P w) 9 (ma K (ga K "Row") "__rand__") (fd 15) ["self", "other"] (spRef K "&") := by
  have zisi : mg "isinstance" = none := T.bl (by decide +kernel)
  have zlist : mg "list" = none := T.bl (by decide +kernel)
  have ztup : mg "tuple" = none := T.bl (by decide +kernel)
  have gR : mg "Row" = some (.ref (ga K "Row")) := T.cl (by decide +kernel)
  have gJ := T.fn (x := "joined") (by decide +kernel)
  have FJ : FnP K "joined" "joined" s_joined (ga K "joined") (fd 31) := D 31 _ rfl
  have GJ : FnOk P w K mg base (L2.CX P w) 8 (ga K "joined") (fd 31) ["sign", "left", "right"] (spJoined K) := ok_joined D T
  have bJ : Binds K (fd 31) ["sign", "left", "right"] [] := FJ.bindsN fun _ _ _ _ _ _ us hl => match us, hl with | [_, _, _], _ => rfl
  have F : FnP K "__rand__" "Row.__rand__" s_rand (ma K (ga K "Row") "__rand__") (fd 15) := D 15 _ rfl
  refine F.ok sc_rand (fun vs H Q E h => ?_) (fun cdv A outer s H vs Q E hr h => ?_)
  · obtain ⟨a, y, t, rfl, _⟩ := h
    rfl
  · obtain ⟨a, y, t, rfl, op, hl, j⟩ := h
    refine ⟨_, (pss_cons (ps_if (pt_not (pt_val (pe_callB call_isAT (by rfl) zisi (by decide +kernel) (pa_cons (pv 1) (pa_cons (pe_tupN (pa_cons (pe_bltn (v := .ty "list") (by rfl) zlist (by decide +kernel) rfl) (pa_cons (pe_bltn (v := .ty "tuple") (by rfl) ztup (by decide +kernel) rfl) pa_nil))) pa_nil))))) (pss_one (ps_ret pe_no)) pss_nil)
    (pss_one (ps_ret (pe_call (E := E) GJ (hr.mono (by decide)) rfl gJ FJ.kp bJ .nil (passes_call (takes_of rfl rfl rfl rfl) (fun _ _ _ _ h => h)) (pa_cons pe_str (pa_cons (pv 1) (pa_cons (pv 0) pa_nil))))))), ?_⟩
    refine ⟨_, rfl, sz1000 (by show 2 ≤ 1000; decide), fun tp H1 f1 s1 g1 => ?_⟩
    have kit : PySem.W.kitAny K t [.type "list", .type "tuple"] = some true := by
      rcases hl with rfl | rfl
      · rfl
      · rfl
    refine ⟨.ref y, tp, _, t, [.type "list", .type "tuple"], true, rfl, g1, .cons (.ty _) (.cons (.ty _) .nil), .inl ((op.same s1).ty T), kit, _, rfl, ?_⟩
    refine iteF ?_
    exact ⟨_, rfl, _, rfl, j.same s1⟩
abbrev s_sub : Stmt := inClass (topS 25) 24
theorem sc_sub : FnScope N_in ["self", "other"] (defScope s_sub) := ⟨rfl, rfl, rfl, by decide +kernel, rfl, by decide +kernel, by decide +kernel⟩
theorem ok_sub (D : DefsK K fd) (T : Txt K mg) : FnOk P w K mg base (L2.CX P w) 9 (ma K (ga K "Row") "__sub__") (fd 16) ["self", "other"] (spBin K "-") := by
  have zisi : mg "isinstance" = none := T.bl (by decide +kernel)
  have zlist : mg "list" = none := T.bl (by decide +kernel)
  have ztup : mg "tuple" = none := T.bl (by decide +kernel)
  have gR : mg "Row" = some (.ref (ga K "Row")) := T.cl (by decide +kernel)
  have gJ := T.fn (x := "joined") (by decide +kernel)
  have FJ : FnP K "joined" "joined" s_joined (ga K "joined") (fd 31) := D 31 _ rfl
  have GJ : FnOk P w K mg base (L2.CX P w) 8 (ga K "joined") (fd 31) ["sign", "left", "right"] (spJoined K) := ok_joined D T
  have bJ : Binds K (fd 31) ["sign", "left", "right"] [] := FJ.bindsN fun _ _ _ _ _ _ us hl => match us, hl with | [_, _, _], _ => rfl
  have F : FnP K "__sub__" "Row.__sub__" s_sub (ma K (ga K "Row") "__sub__") (fd 16) := D 16 _ rfl
  refine F.ok sc_sub (fun vs H Q E h => ?_) (fun cdv A outer s H vs Q E hr h => ?_)
  · obtain ⟨a, y, t, rfl, _⟩ := h
    rfl
  · obtain ⟨a, y, t, rfl, op, j⟩ := h
    refine ⟨_, (pss_cons (ps_if (pt_not (pt_val (pe_callB call_isAT (by rfl) zisi (by decide +kernel) (pa_cons (pv 1) (pa_cons (pe_tupN (pa_cons (pe_glob (v := .ref (ga K "Row")) rfl gR rfl) (pa_cons (pe_bltn (v := .ty "list") (by rfl) zlist (by decide +kernel) rfl) (pa_cons (pe_bltn (v := .ty "tuple") (by rfl) ztup (by decide +kernel) rfl) pa_nil)))) pa_nil))))) (pss_one (ps_ret pe_no)) pss_nil)
    (pss_one (ps_ret (pe_call (E := E) GJ (hr.mono (by decide)) rfl gJ FJ.kp bJ .nil (passes_call (takes_of rfl rfl rfl rfl) (fun _ _ _ _ h => h)) (pa_cons pe_str (pa_cons (pv 0) (pa_cons (pv 1) pa_nil))))))), ?_⟩
    refine ⟨_, rfl, sz1000 (by show 3 ≤ 1000; decide), fun tp H1 f1 s1 g1 => ?_⟩
    refine ⟨.ref y, tp, _, t, [.ref (ga K "Row"), .type "list", .type "tuple"], true, rfl, g1, .cons (.own _) (.cons (.ty _) (.cons (.ty _) .nil)), .inl ((op.same s1).ty T), op.kit T, _, rfl, ?_⟩
    refine iteF ?_
    exact ⟨_, rfl, _, rfl, j.same s1⟩
abbrev s_rsub : Stmt := inClass (topS 25) 25
theorem sc_rsub : FnScope N_in ["self", "other"] (defScope s_rsub) := ⟨rfl, rfl, rfl, by decide +kernel, rfl, by decide +kernel, by decide +kernel⟩
theorem ok_rsub (D : DefsK K fd) (T : Txt K mg) : FnOk P w K mg base (L2.CX P w) 9 (ma K (ga K "Row") "__rsub__") (fd 17) ["self", "other"] (spRef K "-") := by
  have zisi : mg "isinstance" = none := T.bl (by decide +kernel)
  have zlist : mg "list" = none := T.bl (by decide +kernel)
  have ztup : mg "tuple" = none := T.bl (by decide +kernel)
  have gR : mg "Row" = some (.ref (ga K "Row")) := T.cl (by decide +kernel)
  have gJ := T.fn (x := "joined") (by decide +kernel)
  have FJ : FnP K "joined" "joined" s_joined (ga K "joined") (fd 31) := D 31 _ rfl
  have GJ : FnOk P w K mg base (L2.CX P w) 8 (ga K "joined") (fd 31) ["sign", "left", "right"] (spJoined K) := ok_joined D T
  have bJ : Binds K (fd 31) ["sign", "left", "right"] [] := FJ.bindsN fun _ _ _ _ _ _ us hl => match us, hl with | [_, _, _], _ => rfl
  have F : FnP K "__rsub__" "Row.__rsub__" s_rsub (ma K (ga K "Row") "__rsub__") (fd 17) := D 17 _ rfl
  refine F.ok sc_rsub (fun vs H Q E h => ?_) (fun cdv A outer s H vs Q E hr h => ?_)
  · obtain ⟨a, y, t, rfl, _⟩ := h
    rfl
  · obtain ⟨a, y, t, rfl, op, hl, j⟩ := h
    refine ⟨_, (pss_cons (ps_if (pt_not (pt_val (pe_callB call_isAT (by rfl) zisi (by decide +kernel) (pa_cons (pv 1) (pa_cons (pe_tupN (pa_cons (pe_bltn (v := .ty "list") (by rfl) zlist (by decide +kernel) rfl) (pa_cons (pe_bltn (v := .ty "tuple") (by rfl) ztup (by decide +kernel) rfl) pa_nil))) pa_nil))))) (pss_one (ps_ret pe_no)) pss_nil)
    (pss_one (ps_ret (pe_call (E := E) GJ (hr.mono (by decide)) rfl gJ FJ.kp bJ .nil (passes_call (takes_of rfl rfl rfl rfl) (fun _ _ _ _ h => h)) (pa_cons pe_str (pa_cons (pv 1) (pa_cons (pv 0) pa_nil))))))), ?_⟩
    refine ⟨_, rfl, sz1000 (by show 2 ≤ 1000; decide), fun tp H1 f1 s1 g1 => ?_⟩
    have kit : PySem.W.kitAny K t [.type "list", .type "tuple"] = some true := by
      rcases hl with rfl | rfl
      · rfl
      · rfl
    refine ⟨.ref y, tp, _, t, [.type "list", .type "tuple"], true, rfl, g1, .cons (.ty _) (.cons (.ty _) .nil), .inl ((op.same s1).ty T), kit, _, rfl, ?_⟩
    refine iteF ?_
    exact ⟨_, rfl, _, rfl, j.same s1⟩
abbrev s_xor : Stmt := inClass (topS 25) 27
theorem sc_xor : FnScope N_in ["self", "other"] (defScope s_xor) := ⟨rfl, rfl, rfl, by decide +kernel, rfl, by decide +kernel, by decide +kernel⟩
theorem ok_xor (D : DefsK K fd) (T : Txt K mg) : FnOk P w K mg base (L2.CX P w) 9 (ma K (ga K "Row") "__xor__") (fd 18) ["self", "other"] (spBin K "^") := by
  have zisi : mg "isinstance" = none := T.bl (by decide +kernel)
  have zlist : mg "list" = none := T.bl (by decide +kernel)
  have ztup : mg "tuple" = none := T.bl (by decide +kernel)
  have gR : mg "Row" = some (.ref (ga K "Row")) := T.cl (by decide +kernel)
  have gJ := T.fn (x := "joined") (by decide +kernel)
  have FJ : FnP K "joined" "joined" s_joined (ga K "joined") (fd 31) := D 31 _ rfl
  have GJ : FnOk P w K mg base (L2.CX P w) 8 (ga K "joined") (fd 31) ["sign", "left", "right"] (spJoined K) := ok_joined D T
  have bJ : Binds K (fd 31) ["sign", "left", "right"] [] := FJ.bindsN fun _ _ _ _ _ _ us hl => match us, hl with | [_, _, _], _ => rfl
  have F : FnP K "__xor__" "Row.__xor__" s_xor (ma K (ga K "Row") "__xor__") (fd 18) := D 18 _ rfl
  refine F.ok sc_xor (fun vs H Q E h => ?_) (fun cdv A outer s H vs Q E hr h => ?_)
  · obtain ⟨a, y, t, rfl, _⟩ := h
    rfl
  · obtain ⟨a, y, t, rfl, op, j⟩ := h
    refine ⟨_, (pss_cons (ps_if (pt_not (pt_val (pe_callB call_isAT (by rfl) zisi (by decide +kernel) (pa_cons (pv 1) (pa_cons (pe_tupN (pa_cons (pe_glob (v := .ref (ga K "Row")) rfl gR rfl) (pa_cons (pe_bltn (v := .ty "list") (by rfl) zlist (by decide +kernel) rfl) (pa_cons (pe_bltn (v := .ty "tuple") (by rfl) ztup (by decide +kernel) rfl) pa_nil)))) pa_nil))))) (pss_one (ps_ret pe_no)) pss_nil)
    (pss_one (ps_ret (pe_call (E := E) GJ (hr.mono (by decide)) rfl gJ FJ.kp bJ .nil (passes_call (takes_of rfl rfl rfl rfl) (fun _ _ _ _ h => h)) (pa_cons pe_str (pa_cons (pv 0) (pa_cons (pv 1) pa_nil))))))), ?_⟩
    refine ⟨_, rfl, sz1000 (by show 3 ≤ 1000; decide), fun tp H1 f1 s1 g1 => ?_⟩
    refine ⟨.ref y, tp, _, t, [.ref (ga K "Row"), .type "list", .type "tuple"], true, rfl, g1, .cons (.own _) (.cons (.ty _) (.cons (.ty _) .nil)), .inl ((op.same s1).ty T), op.kit T, _, rfl, ?_⟩
    refine iteF ?_
    exact ⟨_, rfl, _, rfl, j.same s1⟩
abbrev s_rxor : Stmt := inClass (topS 25) 28
theorem sc_rxor : FnScope N_in ["self", "other"] (defScope s_rxor) := ⟨rfl, rfl, rfl, by decide +kernel, rfl, by decide +kernel, by decide +kernel⟩
theorem ok_rxor (D : DefsK K fd) (T : Txt K mg) : FnOk P w K mg base (L2.CX P w) 9 (ma K (ga K "Row") "__rxor__") (fd 19) ["self", "other"] (spRef K "^") := by
  have zisi : mg "isinstance" = none := T.bl (by decide +kernel)
  have zlist : mg "list" = none := T.bl (by decide +kernel)
  have ztup : mg "tuple" = none := T.bl (by decide +kernel)
  have gR : mg "Row" = some (.ref (ga K "Row")) := T.cl (by decide +kernel)
  have gJ := T.fn (x := "joined") (by decide +kernel)
  have FJ : FnP K "joined" "joined" s_joined (ga K "joined") (fd 31) := D 31 _ rfl
  have GJ : FnOk P w K mg base (L2.CX P w) 8 (ga K "joined") (fd 31) ["sign", "left", "right"] (spJoined K) := ok_joined D T
  have bJ : Binds K (fd 31) ["sign", "left", "right"] [] := FJ.bindsN fun _ _ _ _ _ _ us hl => match us, hl with | [_, _, _], _ => rfl
  have F : FnP K "__rxor__" "Row.__rxor__" s_rxor (ma K (ga K "Row") "__rxor__") (fd 19) := D 19 _ rfl
  refine F.ok sc_rxor (fun vs H Q E h => ?_) (fun cdv A outer s H vs Q E hr h => ?_)
  · obtain ⟨a, y, t, rfl, _⟩ := h
    rfl
  · obtain ⟨a, y, t, rfl, op, hl, j⟩ := h
    refine ⟨_, (pss_cons (ps_if (pt_not (pt_val (pe_callB call_isAT (by rfl) zisi (by decide +kernel) (pa_cons (pv 1) (pa_cons (pe_tupN (pa_cons (pe_bltn (v := .ty "list") (by rfl) zlist (by decide +kernel) rfl) (pa_cons (pe_bltn (v := .ty "tuple") (by rfl) ztup (by decide +kernel) rfl) pa_nil))) pa_nil))))) (pss_one (ps_ret pe_no)) pss_nil)
    (pss_one (ps_ret (pe_call (E := E) GJ (hr.mono (by decide)) rfl gJ FJ.kp bJ .nil (passes_call (takes_of rfl rfl rfl rfl) (fun _ _ _ _ h => h)) (pa_cons pe_str (pa_cons (pv 1) (pa_cons (pv 0) pa_nil))))))), ?_⟩
    refine ⟨_, rfl, sz1000 (by show 2 ≤ 1000; decide), fun tp H1 f1 s1 g1 => ?_⟩
    have kit : PySem.W.kitAny K t [.type "list", .type "tuple"] = some true := by
      rcases hl with rfl | rfl
      · rfl
      · rfl
    refine ⟨.ref y, tp, _, t, [.type "list", .type "tuple"], true, rfl, g1, .cons (.ty _) (.cons (.ty _) .nil), .inl ((op.same s1).ty T), kit, _, rfl, ?_⟩
    refine iteF ?_
    exact ⟨_, rfl, _, rfl, j.same s1⟩
end
end K08
namespace Tw
open PySem PySem.Spec PyProof.Rows L2 He
/-- a walk over a tuple that stays, any body -/
theorem walk_tup {K : PySem.W.Frag} {a : Addr} {xs : List V} {body : (Hp → Prop) → V → Hp → Prop} {H0 : Hp} {Qd : Hp → Prop} (Pv : Nat → Hp → Prop) (h0 : Pv 0 H0) (hl : ∀ i H, i ≤ xs.length → Pv i H → SqT K H a xs) (hs : ∀ i x H, xs[i]? = some x → Pv i H → body (Pv (i + 1)) x H) (hd : ∀ H, Pv xs.length H → Qd H) :
    ∃ W : Nat → Nat → Hp → Prop, (∃ m, W 0 m H0) ∧ ∀ i m H, W i m H → ((Itt K a).stop i H ∧ Qd H) ∨ ((Itt K a).go i H ∧ ∃ Nx : Hp → Prop, (∀ H', Nx H' → ∃ m', m' < m ∧ W (i + 1) m' H') ∧ ∀ x H', (Itt K a).yld i H x H' → body Nx x H') := by
  refine ⟨fun i m H => m = xs.length - i ∧ i ≤ xs.length ∧ Pv i H, ⟨_, rfl, Nat.zero_le _, h0⟩, fun i m H ⟨e0, hi, hp⟩ => ?_⟩
  have hq := hl i H hi hp
  rcases Nat.lt_or_ge i xs.length with lt | ge
  · refine .inr ⟨⟨xs, xs[i], hq, by simp [lt]⟩, Pv (i + 1), fun H' hp' => ⟨_, by omega, rfl, lt, hp'⟩, fun x H' hy => ?_⟩
    obtain ⟨e1, hy⟩ := hy
    subst e1
    exact hs i x _ (hy xs hq) hp
  · have e1 : i = xs.length := by omega
    rw [e1] at hp ⊢
    exact .inl ⟨⟨xs, hq, Nat.le_refl _⟩, hd H hp⟩
/-- a walk over a range, any body -/
theorem walk_rng {lo : Int} {n : Nat} {body : (Hp → Prop) → V → Hp → Prop} {H0 : Hp} {Qd : Hp → Prop} (Pv : Nat → Hp → Prop) (h0 : Pv 0 H0) (hs : ∀ i H, i < n → Pv i H → body (Pv (i + 1)) (.int (lo + i)) H) (hd : ∀ H, Pv n H → Qd H) :
    ∃ W : Nat → Nat → Hp → Prop, (∃ m, W 0 m H0) ∧ ∀ i m H, W i m H → ((Itr lo n).stop i H ∧ Qd H) ∨ ((Itr lo n).go i H ∧ ∃ Nx : Hp → Prop, (∀ H', Nx H' → ∃ m', m' < m ∧ W (i + 1) m' H') ∧ ∀ x H', (Itr lo n).yld i H x H' → body Nx x H') := by
  refine ⟨fun i m H => m = n - i ∧ i ≤ n ∧ Pv i H, ⟨_, rfl, Nat.zero_le _, h0⟩, fun i m H ⟨e0, hi, hp⟩ => ?_⟩
  rcases Nat.lt_or_ge i n with lt | ge
  · refine .inr ⟨lt, Pv (i + 1), fun H' hp' => ⟨_, by omega, rfl, lt, hp'⟩, fun x H' hy => ?_⟩
    obtain ⟨e1, e2⟩ := hy
    subst e1 e2
    exact hs i _ lt hp
  · have e1 : i = n := by omega
    rw [e1] at hp ⊢
    exact .inl ⟨Nat.le_refl _, hd H hp⟩
/-- each n times -/
def repL {α : Type} (xs : List α) (n : Nat) : List α := (xs.map (List.replicate n)).flatten
theorem repL_snoc {α : Type} (xs : List α) (x : α) (n : Nat) : repL (xs ++ [x]) n = repL xs n ++ List.replicate n x := by
  unfold repL
  rw [List.map_append, List.flatten_append]
  simp
theorem repL_len {α : Type} (n : Nat) : ∀ xs : List α, (repL xs n).length = xs.length * n
  | [] => by simp [repL]
  | x :: xs => by
    have e : repL (x :: xs) n = List.replicate n x ++ repL xs n := rfl
    rw [e, List.length_append, List.length_replicate, repL_len n xs, List.length_cons, Nat.succ_mul, Nat.add_comm]
theorem repL_mem {α : Type} {n : Nat} {x : α} : ∀ {xs : List α}, x ∈ repL xs n → x ∈ xs
  | [], h => nomatch h
  | y :: ys, h => by
    have e : repL (y :: ys) n = List.replicate n y ++ repL ys n := rfl
    rw [e] at h
    rcases List.mem_append.mp h with h | h
    · rw [List.eq_of_mem_replicate h]
      exact List.mem_cons_self
    · exact List.mem_cons_of_mem _ (repL_mem h)
theorem paired_rep {α β : Type} {F : α → β → Prop} {x : α} {y : β} (h : F x y) : ∀ n : Nat, Paired F (List.replicate n x) (List.replicate n y)
  | 0 => .nil
  | n + 1 => .cons h (paired_rep h n)
end Tw
namespace K08
open PySem PySem.Spec PyProof.Rows L2 He Tw
theorem paired_repL {α β : Type} {F : α → β → Prop} {n : Nat} : ∀ {xs : List α} {ys : List β}, Paired F xs ys → Paired F (repL xs n) (repL ys n)
  | _, _, .nil => .nil
  | _, _, .cons h t => paired_app (paired_repL t) (paired_rep h n)
theorem asc_repL {n : Nat} {ps : List (Int × Str)} (h : Asc ps) : Asc (repL ps n) := by
  unfold repL Asc
  refine List.pairwise_flatten.mpr ⟨fun l hl => ?_, ?_⟩
  · obtain ⟨r, _, rfl⟩ := List.mem_map.mp hl
    exact List.Pairwise.imp_of_mem (R := fun _ _ => True) (fun ha hb _ => by rw [List.eq_of_mem_replicate ha, List.eq_of_mem_replicate hb]; exact Int.le_refl _) (List.pairwise_of_forall (fun _ _ => trivial))
  · refine List.pairwise_map.mpr (h.imp fun h x hx y hy => ?_)
    rw [List.eq_of_mem_replicate hx, List.eq_of_mem_replicate hy]
    exact h
/-- a row's items, each n times -/
def spRep (K : Fg) (sw : Bool) : Sp := fun vs H Q E => ∃ (a : Addr) (n : Nat) (us : List V) (ps : List (Int × Str)), vs = [.ref a, .int (n : Nat)] ∧ RowAt K H a us ∧ Its K H us ps ∧ Asc ps ∧ ps.length * n ≤ 900 ∧ n ≤ 1000 ∧
  ((ps.length * n ≤ 200 → ∀ (x : Addr) (H' : Hp) (zs : List V), H x = none → Same H H' → RowAt K H' x zs → Its K H' zs (repL ps n) → Q (.ref x) H') ∧
   (200 < ps.length * n → ∀ (d : Addr) (H' : Hp), Same H H' → H' d = some (.xd [("most", .int 200)]) → E (.ref (ga K "TooMany")) (some d) H'))
abbrev s_rep : Stmt := topS 27
abbrev N_rep : List Str := ["row", "many", "item", "_"]
theorem sc_rep : FnScope N_rep ["row", "many"] (defScope s_rep) := ⟨rfl, rfl, rfl, by decide +kernel, rfl, by decide +kernel, by decide +kernel⟩
section
variable {P : Program} {w : World} {K : Fg} {mg : Str → Option Value} {base : Heap} {fd : Nat → FuncData}
theorem ok_rep (D : DefsK K fd) (T : Txt K mg) : FnOk P w K mg base (L2.CX P w) 8 (ga K "repeated") (fd 32) ["row", "many"] (spRep K false) := by
  have zr : mg "range" = none := T.bl (by decide +kernel)
  have gR : mg "Row" = some (.ref (ga K "Row")) := T.cl (by decide +kernel)
  have GR : FnOk P w K mg base (L2.CX P w) 6 (ma K (ga K "Row") "__init__") (fd 6) ["self", "items"] (spRow K) := G_row D T
  have F : FnP K "repeated" "repeated" s_rep (ga K "repeated") (fd 32) := D 32 _ rfl
  refine F.ok sc_rep (fun vs H Q E h => ?_) (fun cdv A outer s H vs Q E hr h => ?_)
  · obtain ⟨a, n, us, ps, rfl, _⟩ := h
    rfl
  · obtain ⟨a, n, us, ps, rfl, ra, ia, asc, few, hn, kA, kB⟩ := h
    refine ⟨_, pss_one (ps_ret (pe_make (E := E) T.mkR GR (hr.mono (by decide)) rfl gR (bRow D) .nil (passes_call (takes_of rfl rfl rfl rfl) (fun _ _ _ _ h => h))
      (pa_cons (pe_lc2 (own := [("item", 2), ("_", 3)]) (vs1 := [3]) (g := gName 2) (g1 := gName 3) (tt := tYes) (tt1 := tYes) (by rfl) sc_rep.nd (pi_tup (pe_fld (pv 0) rfl)) (blkOk_by (own := [("item", 2), ("_", 3)]) (N := N_rep) (sc := defScope s_rep) (by decide +kernel)) (by decide)
        (fun _ _ _ _ _ => pg_name (i := 2) sc_rep.nd rfl (Or.inl rfl)) (fun _ _ _ _ _ => pts_nil) (fun _ _ _ _ _ => pi_range1 rfl zr (pa_cons (pv 1) pa_nil)) (fun _ _ _ _ _ => pg_name (i := 3) sc_rep.nd rfl (Or.inl rfl)) (fun _ _ _ _ _ => pts_nil) (fun _ _ _ _ _ => (pv 2))) pa_nil))), ?_⟩
    have la := its_len ia
    obtain ⟨dx, t, ha, ht⟩ := id ra
    refine ⟨_, rfl, a, _, dx, _, _, rfl, ha, T.clsR, T.naR, rfl, t, rfl, ⟨_, SqT.of ht⟩, fun D1 hD => ?_⟩
    refine walk_tup (K := K) (a := t) (xs := us) (fun i H' => Same H H' ∧ H' D1 = some (.lst (repL (us.take i) n))) ⟨same_new hD, upd_same⟩ (fun i H' _ q => SqT.of (q.1 _ _ ht)) ?_ ?_
    · rintro i x H1 hx ⟨s1, g1⟩
      have hi : i < us.length := (List.getElem?_eq_some_iff.mp hx).1
      have tk : us.take (i + 1) = us.take i ++ [x] := by rw [List.take_add_one, hx]; rfl
      have lt : (repL (us.take (i + 1)) n).length ≤ 900 := by
        rw [repL_len, List.length_take]
        have : min (i + 1) us.length * n ≤ us.length * n := Nat.mul_le_mul_right _ (Nat.min_le_right _ _)
        have e : us.length * n = ps.length * n := by rw [la]
        omega
      refine ⟨rfl, _, rfl, n, rfl, by omega, by omega, ?_⟩
      refine walk_rng (lo := 0) (n := n) (fun j H' => Same H H' ∧ H' D1 = some (.lst (repL (us.take i) n ++ List.replicate j x))) ⟨s1, by rw [g1]; simp⟩ ?_ ?_
      · rintro j H2 hj ⟨s2, g2⟩
        refine ⟨rfl, _, rfl, _, g2, ?_, same_upd s2 hD, ?_⟩
        · rw [tk, repL_snoc, List.length_append, List.length_replicate] at lt
          rw [List.length_append, List.length_replicate]
          exact Nat.lt_of_lt_of_le (show _ < 1000 by omega) (by decide)
        · rw [upd_same, List.append_assoc, ← List.replicate_succ']
      · rintro H2 ⟨s2, g2⟩
        refine ⟨s2, ?_⟩
        rw [g2, tk, repL_snoc]
    · rintro H1 ⟨s1, g1⟩
      rw [List.take_of_length_le (Nat.le_refl _)] at g1
      have i1 : Its K H1 (repL us n) (repL ps n) := paired_repL (ia.same s1)
      have ll := repL_len n ps
      refine fun x dx hx hd hne => row_or hx hd hne (its_src (.inl (SqL.of g1)) i1 (by omega)) (asc_up (asc_repL asc)) (fun few3 H4 zs s4 r4 i4 => ⟨rfl, ?_⟩) (fun big d H4 s4 g4 => kB (by omega) d H4 (s1.trans s4) g4)
      refine kA (by omega) x H4 zs ?_ (s1.trans s4) r4 i4
      cases q : H x with
      | none => rfl
      | some o =>
        rw [s1 _ _ q] at hx
        cases hx
end
end K08
namespace K08
open PySem PySem.Spec PyProof.Rows L2 He Tw
theorem seqB_ok {K : Fg} {x : Str} {op : Operator} {t : String} (h : seqB K x op t = true) : SeqT K (ga K x) op t := by
  unfold seqB at h
  obtain ⟨h1, h2⟩ := ba h
  refine ⟨?_, of_decide_eq_true h2⟩
  split at h1
  · rename_i fo ro e1 e2
    exact ⟨fo, ro, e1, e2, by revert h1; cases ((fo.isSome && !isSeqSlot fo) || (ro.isSome && !isSeqSlot ro)) <;> simp⟩
  · cases h1
abbrev s_mul : Stmt := inClass (topS 25) 30
theorem sc_mul : FnScope N_in ["self", "other"] (defScope s_mul) := ⟨rfl, rfl, rfl, by decide +kernel, rfl, by decide +kernel, by decide +kernel⟩
abbrev s_rmul : Stmt := inClass (topS 25) 31
theorem sc_rmul : FnScope N_in ["self", "other"] (defScope s_rmul) := ⟨rfl, rfl, rfl, by decide +kernel, rfl, by decide +kernel, by decide +kernel⟩
section
variable {P : Program} {w : World} {K : Fg} {mg : Str → Option Value} {base : Heap} {fd : Nat → FuncData}
theorem ok_mul (D : DefsK K fd) (T : Txt K mg) : FnOk P w K mg base (L2.CX P w) 9 (ma K (ga K "Row") "__mul__") (fd 20) ["self", "other"] (spRep K false) := by
  have gN := T.fn (x := "is_number") (by decide +kernel)
  have gR := T.fn (x := "repeated") (by decide +kernel)
  have FN : FnP K "is_number" "is_number" s_num (ga K "is_number") (fd 24) := D 24 _ rfl
  have GN : FnOk P w K mg base CX0 1 _ (fd 24) ["value"] spNum := ok_num FN T
  have bN : Binds K (fd 24) ["value"] [] := FN.bindsN fun _ _ _ _ _ _ us hl => match us, hl with | [_], _ => rfl
  have FR : FnP K "repeated" "repeated" s_rep (ga K "repeated") (fd 32) := D 32 _ rfl
  have GR : FnOk P w K mg base (L2.CX P w) 8 (ga K "repeated") (fd 32) ["row", "many"] (spRep K false) := ok_rep D T
  have bR : Binds K (fd 32) ["row", "many"] [] := FR.bindsN fun _ _ _ _ _ _ us hl => match us, hl with | [_, _], _ => rfl
  have F : FnP K "__mul__" "Row.__mul__" s_mul (ma K (ga K "Row") "__mul__") (fd 20) := D 20 _ rfl
  refine F.ok sc_mul (fun vs H Q E h => ?_) (fun cdv A outer s H vs Q E hr h => ?_)
  · obtain ⟨a, n, us, ps, rfl, _⟩ := h
    rfl
  · obtain ⟨a, n, us, ps, rfl, h⟩ := h
    refine ⟨_, (pss_cons (ps_if (pt_not (pt_val (pe_call (E := E) GN (hr.mono (by decide)) rfl gN FN.kp bN .nil pass0 (pa_cons (pv 1) pa_nil)))) (pss_one (ps_ret pe_no)) pss_nil)
    (pss_one (ps_ret (pe_call (E := E) GR (hr.mono (by decide)) rfl gR FR.kp bR .nil (passes_call (takes_of rfl rfl rfl rfl) (fun _ _ _ _ h => h)) (pa_cons (pv 0) (pa_cons (pv 1) pa_nil)))))), ?_⟩
    refine ⟨_, rfl, .int (n : Nat), "int", rfl, .int _, _, rfl, ?_⟩
    refine iteF ?_
    exact ⟨_, rfl, _, rfl, a, n, us, ps, rfl, h⟩
theorem ok_rmul (D : DefsK K fd) (T : Txt K mg) : FnOk P w K mg base (L2.CX P w) 9 (ma K (ga K "Row") "__rmul__") (fd 21) ["self", "other"] (spRep K false) := by
  have gN := T.fn (x := "is_number") (by decide +kernel)
  have gR := T.fn (x := "repeated") (by decide +kernel)
  have FN : FnP K "is_number" "is_number" s_num (ga K "is_number") (fd 24) := D 24 _ rfl
  have GN : FnOk P w K mg base CX0 1 _ (fd 24) ["value"] spNum := ok_num FN T
  have bN : Binds K (fd 24) ["value"] [] := FN.bindsN fun _ _ _ _ _ _ us hl => match us, hl with | [_], _ => rfl
  have FR : FnP K "repeated" "repeated" s_rep (ga K "repeated") (fd 32) := D 32 _ rfl
  have GR : FnOk P w K mg base (L2.CX P w) 8 (ga K "repeated") (fd 32) ["row", "many"] (spRep K false) := ok_rep D T
  have bR : Binds K (fd 32) ["row", "many"] [] := FR.bindsN fun _ _ _ _ _ _ us hl => match us, hl with | [_, _], _ => rfl
  have F : FnP K "__rmul__" "Row.__rmul__" s_rmul (ma K (ga K "Row") "__rmul__") (fd 21) := D 21 _ rfl
  refine F.ok sc_rmul (fun vs H Q E h => ?_) (fun cdv A outer s H vs Q E hr h => ?_)
  · obtain ⟨a, n, us, ps, rfl, _⟩ := h
    rfl
  · obtain ⟨a, n, us, ps, rfl, h⟩ := h
    refine ⟨_, (pss_cons (ps_if (pt_not (pt_val (pe_call (E := E) GN (hr.mono (by decide)) rfl gN FN.kp bN .nil pass0 (pa_cons (pv 1) pa_nil)))) (pss_one (ps_ret pe_no)) pss_nil)
    (pss_one (ps_ret (pe_call (E := E) GR (hr.mono (by decide)) rfl gR FR.kp bR .nil (passes_call (takes_of rfl rfl rfl rfl) (fun _ _ _ _ h => h)) (pa_cons (pv 0) (pa_cons (pv 1) pa_nil)))))), ?_⟩
    refine ⟨_, rfl, .int (n : Nat), "int", rfl, .int _, _, rfl, ?_⟩
    refine iteF ?_
    exact ⟨_, rfl, _, rfl, a, n, us, ps, rfl, h⟩
theorem Opd.in {K : Fg} {H : Hp} {y : Addr} {t : Value} (h : Opd K H y t) : t = .ref (ga K "Row") ∨ ∃ T ∈ lkind, t = .type T := by
  cases h with
  | row _ => exact .inl rfl
  | lst _ => exact .inr ⟨"list", by decide, rfl⟩
  | tup _ => exact .inr ⟨"tuple", by decide, rfl⟩
theorem lst2.in {t : Value} (h : lst2 t) : ∃ T, T ∈ lkind ∧ t = .type T := by
  rcases h with h | h
  · exact ⟨"list", by decide, h⟩
  · exact ⟨"tuple", by decide, h⟩
/-- what the operators take: a row first, or a list or a tuple and then a row -/
def Two (K : Fg) (H : Hp) (x y : Addr) : Prop := (∃ dx fs t, H x = some (.ins (ga K "Row") dx fs) ∧ Opd K H y t) ∨ (∃ dx fs t, H y = some (.ins (ga K "Row") dx fs) ∧ Opd K H x t ∧ lst2 t)
def spDid (K : Fg) : Sp := fun vs H Q E => ∃ (sign : Str) (x y : Addr), sign ∈ signs ∧ vs = [.str sign, .ref x, .ref y] ∧ Two K H x y ∧ spJoined K [.str sign, .ref x, .ref y] H Q E
/-- x op y by a sign -/
def rTwo (K : Fg) (sign : Str) (E : XK) : R2 := fun x y H Q => rBinX K (ga K "Row") lkind (spBin K sign) E x y H Q ∨ rRefX K (ga K "Row") lkind (spRef K sign) E x y H Q
theorem two_op (T : Txt K mg) {sign : Str} {x y : Addr} {H : Hp} {Q : VK} {E : XK} (h : Two K H x y) (j : spJoined K [.str sign, .ref x, .ref y] H Q E) : rTwo K sign E (.ref x) (.ref y) H Q := by
  rcases h with ⟨dx, fs, t, h1, op⟩ | ⟨dx, fs, t, h1, op, hl⟩
  · exact .inl ⟨x, dx, fs, t, rfl, h1, op.ty T, op.in, x, y, t, rfl, op, j⟩
  · obtain ⟨Ty, m, rfl⟩ := hl.in
    exact .inr ⟨y, dx, fs, Ty, rfl, h1, op.ty T, m, y, x, _, rfl, op, hl, j⟩
theorem opo_add {X : Cx} {E : XK} (D : DefsK K fd) (T : Txt K X.mg) (hr : Room 9 X.A) (hx : Passes (L2.CX X.prog X.w) X E) (h : X.K = K := by rfl) : OpR X (binaryOp .Add) (rTwo K "+" E) := by
  subst h
  exact
  op_or (op_binX (op := .Add) (Ts := lkind) (T.own (m := "__add__") (by decide +kernel)) (fun t h => (T.binT (op := .Add) (by simp [bops]) h).1) (ok_add D T) hr ((show FnP X.K "__add__" "Row.__add__" s_add (ma X.K (ga X.K "Row") "__add__") (fd 10) from D 10 _ rfl).bindsN fun _ _ _ _ _ _ us hl => match us, hl with | [_, _], _ => rfl) hx)
    (op_refX (op := .Add) (Ts := lkind) (T.own (m := "__radd__") (by decide +kernel)) (T.own (m := "__add__") (by decide +kernel)) (fun t h => seqB_ok (T.binT (op := .Add) (by simp [bops]) h).2) (ok_radd D T) hr ((show FnP X.K "__radd__" "Row.__radd__" s_radd (ma X.K (ga X.K "Row") "__radd__") (fd 11) from D 11 _ rfl).bindsN fun _ _ _ _ _ _ us hl => match us, hl with | [_, _], _ => rfl) hx)
theorem opo_or {X : Cx} {E : XK} (D : DefsK K fd) (T : Txt K X.mg) (hr : Room 9 X.A) (hx : Passes (L2.CX X.prog X.w) X E) (h : X.K = K := by rfl) : OpR X (binaryOp .BitOr) (rTwo K "|" E) := by
  subst h
  exact
  op_or (op_binX (op := .BitOr) (Ts := lkind) (T.own (m := "__or__") (by decide +kernel)) (fun t h => (T.binT (op := .BitOr) (by simp [bops]) h).1) (ok_or D T) hr ((show FnP X.K "__or__" "Row.__or__" s_or (ma X.K (ga X.K "Row") "__or__") (fd 12) from D 12 _ rfl).bindsN fun _ _ _ _ _ _ us hl => match us, hl with | [_, _], _ => rfl) hx)
    (op_refX (op := .BitOr) (Ts := lkind) (T.own (m := "__ror__") (by decide +kernel)) (T.own (m := "__or__") (by decide +kernel)) (fun t h => seqB_ok (T.binT (op := .BitOr) (by simp [bops]) h).2) (ok_ror D T) hr ((show FnP X.K "__ror__" "Row.__ror__" s_ror (ma X.K (ga X.K "Row") "__ror__") (fd 13) from D 13 _ rfl).bindsN fun _ _ _ _ _ _ us hl => match us, hl with | [_, _], _ => rfl) hx)
theorem opo_and {X : Cx} {E : XK} (D : DefsK K fd) (T : Txt K X.mg) (hr : Room 9 X.A) (hx : Passes (L2.CX X.prog X.w) X E) (h : X.K = K := by rfl) : OpR X (binaryOp .BitAnd) (rTwo K "&" E) := by
  subst h
  exact
  op_or (op_binX (op := .BitAnd) (Ts := lkind) (T.own (m := "__and__") (by decide +kernel)) (fun t h => (T.binT (op := .BitAnd) (by simp [bops]) h).1) (ok_and D T) hr ((show FnP X.K "__and__" "Row.__and__" s_and (ma X.K (ga X.K "Row") "__and__") (fd 14) from D 14 _ rfl).bindsN fun _ _ _ _ _ _ us hl => match us, hl with | [_, _], _ => rfl) hx)
    (op_refX (op := .BitAnd) (Ts := lkind) (T.own (m := "__rand__") (by decide +kernel)) (T.own (m := "__and__") (by decide +kernel)) (fun t h => seqB_ok (T.binT (op := .BitAnd) (by simp [bops]) h).2) (ok_rand D T) hr ((show FnP X.K "__rand__" "Row.__rand__" s_rand (ma X.K (ga X.K "Row") "__rand__") (fd 15) from D 15 _ rfl).bindsN fun _ _ _ _ _ _ us hl => match us, hl with | [_, _], _ => rfl) hx)
theorem opo_sub {X : Cx} {E : XK} (D : DefsK K fd) (T : Txt K X.mg) (hr : Room 9 X.A) (hx : Passes (L2.CX X.prog X.w) X E) (h : X.K = K := by rfl) : OpR X (binaryOp .Sub) (rTwo K "-" E) := by
  subst h
  exact
  op_or (op_binX (op := .Sub) (Ts := lkind) (T.own (m := "__sub__") (by decide +kernel)) (fun t h => (T.binT (op := .Sub) (by simp [bops]) h).1) (ok_sub D T) hr ((show FnP X.K "__sub__" "Row.__sub__" s_sub (ma X.K (ga X.K "Row") "__sub__") (fd 16) from D 16 _ rfl).bindsN fun _ _ _ _ _ _ us hl => match us, hl with | [_, _], _ => rfl) hx)
    (op_refX (op := .Sub) (Ts := lkind) (T.own (m := "__rsub__") (by decide +kernel)) (T.own (m := "__sub__") (by decide +kernel)) (fun t h => seqB_ok (T.binT (op := .Sub) (by simp [bops]) h).2) (ok_rsub D T) hr ((show FnP X.K "__rsub__" "Row.__rsub__" s_rsub (ma X.K (ga X.K "Row") "__rsub__") (fd 17) from D 17 _ rfl).bindsN fun _ _ _ _ _ _ us hl => match us, hl with | [_, _], _ => rfl) hx)
theorem opo_xor {X : Cx} {E : XK} (D : DefsK K fd) (T : Txt K X.mg) (hr : Room 9 X.A) (hx : Passes (L2.CX X.prog X.w) X E) (h : X.K = K := by rfl) : OpR X (binaryOp .BitXor) (rTwo K "^" E) := by
  subst h
  exact
  op_or (op_binX (op := .BitXor) (Ts := lkind) (T.own (m := "__xor__") (by decide +kernel)) (fun t h => (T.binT (op := .BitXor) (by simp [bops]) h).1) (ok_xor D T) hr ((show FnP X.K "__xor__" "Row.__xor__" s_xor (ma X.K (ga X.K "Row") "__xor__") (fd 18) from D 18 _ rfl).bindsN fun _ _ _ _ _ _ us hl => match us, hl with | [_, _], _ => rfl) hx)
    (op_refX (op := .BitXor) (Ts := lkind) (T.own (m := "__rxor__") (by decide +kernel)) (T.own (m := "__xor__") (by decide +kernel)) (fun t h => seqB_ok (T.binT (op := .BitXor) (by simp [bops]) h).2) (ok_rxor D T) hr ((show FnP X.K "__rxor__" "Row.__rxor__" s_rxor (ma X.K (ga X.K "Row") "__rxor__") (fd 19) from D 19 _ rfl).bindsN fun _ _ _ _ _ _ us hl => match us, hl with | [_, _], _ => rfl) hx)
end
end K08
namespace K08
open PySem PySem.Spec PyProof.Rows L2 He Tw
/-! ### how many items of a rank -/
def cnt (r : Int) (ps : List (Int × Str)) : Nat := (at_ r ps).length
/-- what an operator does to the numbers -/
def opN (sign : Str) (m n : Nat) : Nat := if sign = "+" then m + n else if sign = "|" then m + (n - m) else if sign = "&" then min m n else if sign = "-" then m - n else m - n + (n - m)
theorem ofRank_length {α : Type} (sign : Str) (xs ys : List α) : (ofRank sign xs ys).length = opN sign xs.length ys.length := by
  unfold ofRank opN
  by_cases h1 : sign = "+"
  · rw [if_pos h1, if_pos h1, List.length_append]
  rw [if_neg h1, if_neg h1]
  by_cases h2 : sign = "|"
  · rw [if_pos h2, if_pos h2, List.length_append, List.length_drop]
  rw [if_neg h2, if_neg h2]
  by_cases h3 : sign = "&"
  · rw [if_pos h3, if_pos h3, List.length_take, Nat.min_comm]
  rw [if_neg h3, if_neg h3]
  by_cases h4 : sign = "-"
  · rw [if_pos h4, if_pos h4, List.length_drop]
  rw [if_neg h4, if_neg h4, List.length_append, List.length_drop, List.length_drop]
theorem opN_zero (sign : Str) : opN sign 0 0 = 0 := by
  unfold opN
  simp
theorem at_app (r : Int) (ps qs : List (Int × Str)) : at_ r (ps ++ qs) = at_ r ps ++ at_ r qs := List.filter_append ..
theorem at_ofRank_same (sign : Str) (r : Int) (ps qs : List (Int × Str)) : at_ r (ofRank sign (at_ r ps) (at_ r qs)) = ofRank sign (at_ r ps) (at_ r qs) :=
  List.filter_eq_self.mpr fun q hq => decide_eq_true (ofRank_at hq).1
theorem at_ofRank_other {sign : Str} {r r' : Int} (h : r' ≠ r) (ps qs : List (Int × Str)) : at_ r (ofRank sign (at_ r' ps) (at_ r' qs)) = [] :=
  List.filter_eq_nil_iff.mpr fun q hq hd => h ((ofRank_at hq).1.symm.trans (of_decide_eq_true hd))
theorem cnt_takenL (sign : Str) (r : Int) (ps qs : List (Int × Str)) : ∀ {ns : List Int}, ns.Pairwise (· < ·) → cnt r (takenL sign ps qs ns) = if r ∈ ns then opN sign (cnt r ps) (cnt r qs) else 0
  | [], _ => by
    rw [if_neg (by simp)]
    rfl
  | n :: ns, h => by
    obtain ⟨h1, h2⟩ := List.pairwise_cons.mp h
    have e : takenL sign ps qs (n :: ns) = ofRank sign (at_ n ps) (at_ n qs) ++ takenL sign ps qs ns := by
      unfold takenL
      rfl
    have ih := cnt_takenL sign r ps qs h2
    unfold cnt at ih ⊢
    rw [e, at_app, List.length_append, ih]
    by_cases hn : n = r
    · subst hn
      have nn : n ∉ ns := fun q => Int.lt_irrefl _ (h1 n q)
      rw [at_ofRank_same, ofRank_length, if_neg nn, if_pos List.mem_cons_self, Nat.add_zero]
    · rw [at_ofRank_other hn]
      by_cases hr : r ∈ ns
      · rw [if_pos hr, if_pos (List.mem_cons_of_mem _ hr)]
        exact Nat.zero_add _
      · rw [if_neg hr, if_neg fun q => (List.mem_cons.mp q).elim (fun z => hn z.symm) hr]
        rfl
theorem cnt_zero {r : Int} {ps : List (Int × Str)} (h : r ∉ rk ps) : cnt r ps = 0 := by
  unfold cnt at_
  rw [List.filter_eq_nil_iff.mpr fun q hq hd => h (List.mem_map.mpr ⟨q, hq, of_decide_eq_true hd⟩)]
  rfl
/-- an operator's row counts as the numbers say -/
theorem cnt_op {sign : Str} {ps qs : List (Int × Str)} {ns : List Int} (R : Rks ps qs ns) (r : Int) : cnt r (takenL sign ps qs ns) = opN sign (cnt r ps) (cnt r qs) := by
  rw [cnt_takenL sign r ps qs R.asc]
  by_cases h : r ∈ ns
  · rw [if_pos h]
  · have hn := fun z => h ((R.mem r).mpr z)
    rw [if_neg h, cnt_zero fun z => hn (.inl z), cnt_zero fun z => hn (.inr z), opN_zero]
theorem cnt_count (r : Int) (ps : List (Int × Str)) : (rk ps).count r = cnt r ps := by
  unfold cnt at_ rk
  rw [List.count, List.countP_map, List.countP_eq_length_filter]
  refine congrArg List.length (List.filter_congr fun q _ => ?_)
  rw [Bool.eq_iff_iff]
  simp [Function.comp]
/-- ascending rows with the same numbers are equal -/
theorem asc_one {ps qs : List (Int × Str)} (hp : Asc ps) (hq : Asc qs) : rk ps = rk qs ↔ ∀ r, cnt r ps = cnt r qs := by
  constructor
  · intro e r
    rw [← cnt_count, ← cnt_count, e]
  · intro h
    refine List.Perm.eq_of_pairwise (le := (· ≤ ·)) (fun a b _ _ h1 h2 => Int.le_antisymm h1 h2) (List.pairwise_map.mpr hp) (List.pairwise_map.mpr hq) (List.perm_iff_count.mpr fun r => ?_)
    rw [cnt_count, cnt_count, h]
end K08
namespace K08
open PySem PySem.Spec PyProof.Rows L2 He Tw
theorem eqv_ints : ∀ (xs ys : List Int), PyData.eqvAll (xs.map PyData.int) (ys.map PyData.int) = decide (xs = ys)
  | [], [] => by simp [PyData.eqvAll]
  | [], y :: ys => by simp [PyData.eqvAll]
  | x :: xs, [] => by simp [PyData.eqvAll]
  | x :: xs, y :: ys => by
    have ih := eqv_ints xs ys
    rw [List.map_cons, List.map_cons]
    simp only [PyData.eqvAll, PyData.eqv, ih]
    rw [Bool.eq_iff_iff]
    simp
/-- == of rows, both outcomes -/
def spEqB (K : Fg) : Sp := fun vs H Q _ => ∃ (a b : Addr) (ys zs : List V) (ps us : List (Int × Str)), vs = [.ref a, .ref b] ∧ RowAt K H a ys ∧ Its K H ys ps ∧ ys.length ≤ 900 ∧ RowAt K H b zs ∧ Its K H zs us ∧ zs.length ≤ 900 ∧ ∀ H', Same H H' → Q (.bl (decide (rk ps = rk us))) H'
/-- how many of a rank -/
def spNumR (K : Fg) : Sp := fun vs H Q _ => ∃ (a : Addr) (ys : List V) (ps : List (Int × Str)) (r : Int), vs = [.ref a, .int r] ∧ RowAt K H a ys ∧ Its K H ys ps ∧ ys.length ≤ 900 ∧ ∀ H', Same H H' → Q (.int (cnt r ps : Nat)) H'
abbrev s_numr : Stmt := inClass (topS 25) 12
theorem sc_numr : FnScope ["self", "rank"] ["self", "rank"] (defScope s_numr) := ⟨rfl, rfl, rfl, by decide +kernel, rfl, by decide +kernel, by decide +kernel⟩
section
variable {P : Program} {w : World} {K : Fg} {mg : Str → Option Value} {base : Heap}
theorem ok_eqb {f : Addr} {fd fdK : FuncData} (F : FnP K "__eq__" "Row.__eq__" s_eqr f fd) (FK : FnP K "ranks" "Row.ranks" s_rks (ma K (ga K "Row") "ranks") fdK) (T : Txt K mg) : FnOk P w K mg base CX0 2 f fd ["self", "other"] (spEqB K) := by
  have zisi : mg "isinstance" = none := T.bl (by decide +kernel)
  have gR : mg "Row" = some (.ref (ga K "Row")) := T.cl (by decide +kernel)
  have G_rks : FnOk P w K mg base CX0 1 _ fdK ["self"] (spRanks K) := ok_rks FK T
  have b_rks : Binds K fdK ["self"] [] := FK.bindsN fun _ _ _ _ _ _ us hl => match us, hl with | [_], _ => rfl
  have mR := T.mtR2 (m := "ranks") (by decide +kernel)
  refine F.ok sc_eqr (fun vs H Q E h => ?_) (fun cdv A outer s H vs Q E hr h => ?_)
  · obtain ⟨a, b, ys, zs, ps, us, rfl, _⟩ := h
    rfl
  · obtain ⟨a, b, ys, zs, ps, us, rfl, hA, iA, nA, hB, iB, nB, k⟩ := h
    refine ⟨_, PSs.nox (pss_one (ps_ret (pe_and (pe_callB call_isA (by rfl) zisi (by decide +kernel) (pa_cons (pv 1) (pa_cons (pe_glob (v := .ref (ga K "Row")) rfl gR rfl) pa_nil))) (pe_one (pe_cmpR (op_eqD hr.units) (pe_meth0 (E := E0) (pv 0) T.clsR mR G_rks (hr.mono (by decide)) b_rks .nil pass0) (pe_meth0 (E := E0) (pv 1) T.clsR mR G_rks (hr.mono (by decide)) b_rks .nil pass0) (nomark _)))))), ?_⟩
    obtain ⟨da, ta, ha, hta⟩ := id hA
    obtain ⟨db, tb, hb, htb⟩ := id hB
    have ty : TyX K H (.ref b) (.ref (ga K "Row")) := .base (.ins hb T.clsR (T.ob (by decide +kernel)).2 T.xo.hn T.xo.ht (T.ob (by decide +kernel)).1)
    refine ⟨_, rfl, .ref b, .ref (ga K "Row"), _, _, _, rfl, .own _, .inl ty, T.kitRR, _, rfl, ?_⟩
    refine ⟨_, rfl, a, da, _, rfl, ha, rfl, a, ys, ps, rfl, hA, iA, nA, fun l1 H1 h1 s1 g1 => ?_⟩
    refine ⟨_, rfl, b, db, _, rfl, s1 _ _ hb, rfl, b, zs, us, rfl, hB.same s1, iB.same s1, nB, fun l2 H2 h2 s2 g2 => ?_⟩
    refine ⟨.list ((rk ps).map .int), .list ((rk us).map .int), .lst (SqL.of (s2 _ _ g1)) (dp_ints _), .lst (SqL.of g2) (dp_ints _), shaped_ints _, shaped_ints _, ?_⟩
    have e : PyData.eqv (.list ((rk ps).map .int)) (.list ((rk us).map .int)) = decide (rk ps = rk us) := by
      rw [show PyData.eqv (.list ((rk ps).map .int)) (.list ((rk us).map .int)) = PyData.eqvAll ((rk ps).map .int) ((rk us).map .int) by simp only [PyData.eqv], eqv_ints]
    rw [e]
    exact k H2 (s1.trans s2)
theorem ok_numr {f : Addr} {fd fdK : FuncData} (F : FnP K "number" "Row.number" s_numr f fd) (FK : FnP K "ranks" "Row.ranks" s_rks (ma K (ga K "Row") "ranks") fdK) (T : Txt K mg) : FnOk P w K mg base CX0 2 f fd ["self", "rank"] (spNumR K) := by
  have G_rks : FnOk P w K mg base CX0 1 _ fdK ["self"] (spRanks K) := ok_rks FK T
  have b_rks : Binds K fdK ["self"] [] := FK.bindsN fun _ _ _ _ _ _ us hl => match us, hl with | [_], _ => rfl
  have mR := T.mtR2 (m := "ranks") (by decide +kernel)
  refine F.ok sc_numr (fun vs H Q E h => ?_) (fun cdv A outer s H vs Q E hr h => ?_)
  · obtain ⟨a, ys, ps, r, rfl, _⟩ := h
    rfl
  · obtain ⟨a, ys, ps, r, rfl, hA, iA, nA, k⟩ := h
    refine ⟨_, PSs.nox (pss_one (ps_ret (pe_bm PySem.F.plainAttrs_list PySem.F.slot_list_count PySem.F.type_list_count mt_lcount (pe_meth0 (E := E0) (pv 0) T.clsR mR G_rks (hr.mono (by decide)) b_rks .nil pass0) (pa_cons (pv 1) pa_nil)))), ?_⟩
    obtain ⟨da, ta, ha, hta⟩ := id hA
    refine ⟨_, rfl, a, da, _, rfl, ha, rfl, a, ys, ps, rfl, hA, iA, nA, fun l1 H1 h1 s1 g1 => ?_⟩
    refine ⟨.inl ⟨rfl, _, SqL.of g1⟩, _, rfl, l1, rk ps, r, rfl, rfl, SqL.of g1, ?_⟩
    rw [cnt_count]
    exact k H1 s1
end
end K08
namespace K08
open PySem PySem.Spec PyProof.Rows L2 He Tw
theorem map_some : ∀ {us vs : List (Int × Str)}, us.map some = vs.map some → us = vs
  | [], [], _ => rfl
  | u :: us, v :: vs, h => by
    rw [List.map_cons, List.map_cons] at h
    injection h with h1 h2
    rw [Option.some.inj h1, map_some h2]
  | [], _ :: _, h => by cases h
  | _ :: _, [], h => by cases h
/-- a row of at most n items, its ranks among rs -/
structure RowB (K : Fg) (rs : List Int) (n : Nat) (H : Hp) (a : Addr) (ps : List (Int × Str)) : Prop where
  at_ : ∃ ys, RowAt K H a ys ∧ Its K H ys ps
  asc : Asc ps
  few : ps.length ≤ n
  rn : ∀ r ∈ rk ps, r ∈ rs
theorem RowB.same {K : Fg} {rs : List Int} {n : Nat} {H H' : Hp} {a : Addr} {ps : List (Int × Str)} (h : RowB K rs n H a ps) (s : Same H H') : RowB K rs n H' a ps := by
  obtain ⟨ys, h1, h2⟩ := h.at_
  exact ⟨⟨ys, h1.same s, h2.same s⟩, h.asc, h.few, h.rn⟩
theorem RowB.mono {K : Fg} {rs : List Int} {n m : Nat} {H : Hp} {a : Addr} {ps : List (Int × Str)} (h : RowB K rs n H a ps) (e : n ≤ m) : RowB K rs m H a ps := ⟨h.at_, h.asc, Nat.le_trans h.few e, h.rn⟩
theorem no_bad {ps : List (Int × Str)} (up : Up ps ps.length) (h : ps.length ≤ 200) {z f : Str} {v : Int} : ¬ Bad (ps.map some) z f v := by
  intro b
  have inj : ∀ {us : List (Int × Str)}, ps.map some = us.map some → ps = us := fun e => map_some e
  cases b with
  | @item n us h1 h2 h3 =>
    rw [List.getElem?_map] at h3
    cases e : ps[n]? with
    | none =>
      rw [e] at h3
      cases h3
    | some x =>
      rw [e] at h3
      cases h3
  | order h0 h1 h2 h3 h4 =>
    have e := inj h0
    subst e
    have hk := (List.getElem?_eq_some_iff.mp h2).1
    have := up _ _ _ (by omega) h1 h2
    omega
  | many h0 h1 h2 =>
    have e := inj h0
    subst e
    omega
theorem few_of {rs : List Int} {ps qs : List (Int × Str)} (h : rs.length < 64) (hp : ∀ r ∈ rk ps, r ∈ rs) (hq : ∀ r ∈ rk qs, r ∈ rs) : Few ps qs := fun us nd hu => by
  have sub : ∀ u ∈ us, u ∈ rs := fun u q => (hu u q).elim (hp u) (hq u)
  have : us.length ≤ rs.length := List.Nodup.length_le_of_subset nd sub
  omega
/-- x op y, both rows -/
theorem op_row {K : Fg} {mg : Str → Option Value} (T : Txt K mg) {sign : Str} {rs : List Int} {n m : Nat} {H : Hp} {x y : Addr} {ps qs : List (Int × Str)} {Q : VK} {E : XK} (h64 : rs.length < 64) (hx : RowB K rs n H x ps) (hy : RowB K rs m H y qs) (hnm : n + m ≤ 200)
    (k : ∀ (a : Addr) (H' : Hp) (us : List (Int × Str)), H a = none → Same H H' → RowB K rs (n + m) H' a us → (∀ r, cnt r us = opN sign (cnt r ps) (cnt r qs)) → Q (.ref a) H') : rTwo K sign E (.ref x) (.ref y) H Q := by
  obtain ⟨xs, hx1, hx2⟩ := hx.at_
  obtain ⟨ys, hy1, hy2⟩ := hy.at_
  have lp := hx.few
  have lq := hy.few
  obtain ⟨dx, tx, gx, _⟩ := id hx1
  obtain ⟨dy, ty, gy, _⟩ := id hy1
  refine two_op T (.inl ⟨dx, _, _, gx, .row gy⟩) ⟨sign, x, y, xs, ys, ps.map some, qs.map some, rfl, its_src (.inr (.inr hx1)) hx2 (by omega), its_src (.inr (.inr hy1)) hy2 (by omega), fun ps' qs' e1 u1 l1 e2 u2 l2 => ?_, fun z f v b => absurd b (no_bad (asc_up hx.asc) (by omega)), fun z f v b => absurd b (no_bad (asc_up hy.asc) (by omega))⟩
  have inj : ∀ {vs us : List (Int × Str)}, vs.map some = us.map some → vs = us := fun e => map_some e
  obtain rfl := inj e1
  obtain rfl := inj e2
  refine ⟨few_of h64 hx.rn hy.rn, fun ns R => ?_⟩
  have tl := takenL_len (sign := sign) R
  refine ⟨fun _ a H' us ha s hr hi => k a H' _ ha s ⟨⟨us, hr, hi⟩, takenL_asc R.asc, by omega, fun r hr => ?_⟩ fun r => cnt_op R r, fun h => absurd h (by omega)⟩
  obtain ⟨q, hq, rfl⟩ := List.mem_map.mp hr
  rcases takenL_mem hq with h | h
  · exact hx.rn _ (List.mem_map.mpr ⟨q, h, rfl⟩)
  · exact hy.rn _ (List.mem_map.mpr ⟨q, h, rfl⟩)
end K08
namespace K08
open PySem PySem.Spec PyProof.Rows L2 He Tw
abbrev s_nums : Stmt := topS 36
abbrev N_nums : List Str := ["_law_one", "_law_other", "_law_rank", "_law_m", "_law_n", "_law_both", "_law_found"]
theorem sc_nums : FnScope N_nums ["_law_one", "_law_other", "_law_rank"] (defScope s_nums) := ⟨rfl, rfl, rfl, by decide +kernel, rfl, by decide +kernel, by decide +kernel⟩
def spNums (K : Fg) : Sp := fun vs H Q _ => ∃ (x y : Addr) (r : Int) (rs : List Int) (ps qs : List (Int × Str)), vs = [.ref x, .ref y, .int r] ∧ rs.length < 64 ∧ RowB K rs 50 H x ps ∧ RowB K rs 50 H y qs ∧ ∀ H', Same H H' → Q (.bl true) H'
theorem RowB.ins {K : Fg} {rs : List Int} {n : Nat} {H : Hp} {a : Addr} {ps : List (Int × Str)} (h : RowB K rs n H a ps) : ∃ dx t, H a = some (.ins (ga K "Row") dx [("state", .ref t)]) := by
  obtain ⟨ys, ⟨dx, t, h1, _⟩, _⟩ := h.at_
  exact ⟨dx, t, h1⟩
theorem RowB.els {K : Fg} {rs : List Int} {n : Nat} {H : Hp} {a : Addr} {ps : List (Int × Str)} (h : RowB K rs n H a ps) (hn : n ≤ 900) : ∃ ys, RowAt K H a ys ∧ Its K H ys ps ∧ ys.length ≤ 900 := by
  obtain ⟨ys, h1, h2⟩ := h.at_
  have l : ys.length = ps.length := Paired.length h2
  have := h.few
  exact ⟨ys, h1, h2, by omega⟩
section
variable {P : Program} {w : World} {K : Fg} {mg : Str → Option Value} {base : Heap} {fd : Nat → FuncData}
theorem ok_nums {f fN fK : Addr} {fdF fdN fdK : FuncData} (D : DefsK K fd) (F : FnP K "_law_numbers_right" "_law_numbers_right" s_nums f fdF) (FN : FnP K "number" "Row.number" s_numr (ma K (ga K "Row") "number") fdN) (FK : FnP K "ranks" "Row.ranks" s_rks (ma K (ga K "Row") "ranks") fdK) (T : Txt K mg) :
    FnOk P w K mg base CX0 12 f fdF ["_law_one", "_law_other", "_law_rank"] (spNums K) := by
  have zint : mg "int" = none := T.bl (by decide +kernel)
  have GN : FnOk P w K mg base CX0 2 _ fdN ["self", "rank"] (spNumR K) := ok_numr FN FK T
  have bN : Binds K fdN ["self", "rank"] [] := FN.bindsN fun _ _ _ _ _ _ us hl => match us, hl with | [_, _], _ => rfl
  have mN := T.mtR2 (m := "number") (by decide +kernel)
  refine F.ok sc_nums (fun vs H Q E h => ?_) (fun cdv A outer s H vs Q E hr h => ?_)
  · obtain ⟨x, y, r, rs, ps, qs, rfl, _⟩ := h
    rfl
  · obtain ⟨x, y, r, rs, ps, qs, rfl, h64, hx, hy, k⟩ := h
    refine ⟨_, PSs.nox (pss_cons (ps_par (i := 3) (j := 4) (by rfl) sc_nums.nd rfl rfl (by decide) rfl rfl (pa_cons (pe_meth (E := E0) (pv 0) T.clsR mN GN (hr.mono (by decide)) bN .nil pass0 (pa_cons (pv 2) pa_nil)) (pa_cons (pe_meth (E := E0) (pv 1) T.clsR mN GN (hr.mono (by decide)) bN .nil pass0 (pa_cons (pv 2) pa_nil)) pa_nil)) (by rfl))
    (pss_cons (ps_set (i := 5) sc_nums.nd rfl (Or.inl rfl) (pe_ix ix_list (pe_lstN (pa_cons (pv 3) (pa_cons (pv 4) pa_nil))) (pe_callTy call_int1 (by rfl) zint (by decide +kernel) (pa_cons (pe_cmpR op_lt (pv 4) (pv 3) (nomark _)) pa_nil)) (fun _ _ => rfl)))
    (pss_cons (ps_set (i := 6) sc_nums.nd rfl (Or.inl rfl) (pe_lstN (pa_cons (pe_meth (E := E0) (pe_op (opo_add (E := E0) D T (hr.mono (by decide)) passL) (pv 0) (pv 1)) T.clsR mN GN (hr.mono (by decide)) bN .nil pass0 (pa_cons (pv 2) pa_nil)) (pa_cons (pe_meth (E := E0) (pe_op (opo_or (E := E0) D T (hr.mono (by decide)) passL) (pv 0) (pv 1)) T.clsR mN GN (hr.mono (by decide)) bN .nil pass0 (pa_cons (pv 2) pa_nil)) (pa_cons (pe_meth (E := E0) (pe_op (opo_and (E := E0) D T (hr.mono (by decide)) passL) (pv 0) (pv 1)) T.clsR mN GN (hr.mono (by decide)) bN .nil pass0 (pa_cons (pv 2) pa_nil)) pa_nil)))))
    (pss_cons (ps_set (i := 6) sc_nums.nd rfl (Or.inl rfl) (pe_op op_catN (pv 6) (pe_lstN (pa_cons (pe_meth (E := E0) (pe_op (opo_sub (E := E0) D T (hr.mono (by decide)) passL) (pv 0) (pv 1)) T.clsR mN GN (hr.mono (by decide)) bN .nil pass0 (pa_cons (pv 2) pa_nil)) (pa_cons (pe_meth (E := E0) (pe_op (opo_xor (E := E0) D T (hr.mono (by decide)) passL) (pv 0) (pv 1)) T.clsR mN GN (hr.mono (by decide)) bN .nil pass0 (pa_cons (pv 2) pa_nil)) pa_nil)))))
    (pss_one (ps_ret (pe_cmpR (op_eqD hr.units) (pv 6) (pe_lstN (pa_cons (pe_op op_add (pv 3) (pv 4)) (pa_cons (pe_op op_sub (pe_op op_add (pv 3) (pv 4)) (pv 5)) (pa_cons (pv 5) (pa_cons (pe_op op_sub (pv 3) (pv 5)) (pa_cons (pe_op op_sub (pe_op op_add (pv 3) (pv 4)) (pe_op op_mul pe_int (pv 5))) pa_nil)))))) (nomark _))))))))
, ?_⟩
    obtain ⟨dx, tx, ix⟩ := hx.ins
    obtain ⟨dy, ty, iy⟩ := hy.ins
    obtain ⟨xs, x1, x2, x3⟩ := hx.els (by decide)
    obtain ⟨ys, y1, y2, y3⟩ := hy.els (by decide)
    refine ⟨_, rfl, x, dx, _, rfl, ix, rfl, _, rfl, x, xs, ps, r, rfl, x1, x2, x3, fun H1 s1 => ?_⟩
    refine ⟨_, rfl, y, dy, _, rfl, s1 _ _ iy, rfl, _, rfl, y, ys, qs, r, rfl, y1.same s1, y2.same s1, y3, fun H2 s2 => ?_⟩
    have s12 := s1.trans s2
    refine ⟨_, _, rfl, ?_⟩
    refine ⟨_, rfl, _, rfl, sz1000 (by show 2 ≤ 1000; decide), fun l3 H3 f3 m3 s3 g3 => ?_⟩
    refine ⟨_, rfl, _, rfl, _, _, rfl, rfl, .inr ⟨_, rfl, ?_⟩⟩
    have hb : atI [V.int (cnt r ps : Nat), V.int (cnt r qs : Nat)] (if decide ((cnt r qs : Int) < (cnt r ps : Int)) = true then 1 else 0) = some (V.int (min (cnt r ps) (cnt r qs) : Nat)) := by
      by_cases h : (cnt r qs : Int) < (cnt r ps : Int)
      · rw [decide_eq_true h, if_pos rfl, show min (cnt r ps) (cnt r qs) = cnt r qs from by omega]
        rfl
      · rw [decide_eq_false h, if_neg (by decide), show min (cnt r ps) (cnt r qs) = cnt r ps from by omega]
        rfl
    refine ⟨l3, _, _, _, rfl, rfl, SqL.of g3, hb, ?_⟩
    have S0 := s12.trans s3
    refine ⟨_, rfl, _, rfl, op_row T h64 (hx.same S0) (hy.same S0) (by decide) fun a1 G1 us1 fa1 sa1 rb1 hc1 => ?_⟩
    obtain ⟨d1, t1, i1⟩ := rb1.ins
    obtain ⟨u1, b1, c1, e1⟩ := rb1.els (by decide)
    refine ⟨a1, d1, _, rfl, i1, rfl, _, rfl, a1, u1, us1, r, rfl, b1, c1, e1, fun J1 sj1 => ?_⟩
    have S1 := S0.trans (sa1.trans sj1)
    refine ⟨_, rfl, _, rfl, op_row T h64 (hx.same S1) (hy.same S1) (by decide) fun a2 G2 us2 fa2 sa2 rb2 hc2 => ?_⟩
    obtain ⟨d2, t2, i2⟩ := rb2.ins
    obtain ⟨u2, b2, c2, e2⟩ := rb2.els (by decide)
    refine ⟨a2, d2, _, rfl, i2, rfl, _, rfl, a2, u2, us2, r, rfl, b2, c2, e2, fun J2 sj2 => ?_⟩
    have S2 := S1.trans (sa2.trans sj2)
    refine ⟨_, rfl, _, rfl, op_row T h64 (hx.same S2) (hy.same S2) (by decide) fun a3 G3 us3 fa3 sa3 rb3 hc3 => ?_⟩
    obtain ⟨d3, t3, i3⟩ := rb3.ins
    obtain ⟨u3, b3, c3, e3⟩ := rb3.els (by decide)
    refine ⟨a3, d3, _, rfl, i3, rfl, _, rfl, a3, u3, us3, r, rfl, b3, c3, e3, fun J3 sj3 => ?_⟩
    have S3 := S2.trans (sa3.trans sj3)
    refine ⟨sz1000 (by show 3 ≤ 1000; decide), fun l6 H6 f6 m6 s6 g6 => ?_⟩
    have S4 := S3.trans s6
    refine ⟨_, rfl, ?_⟩
    refine ⟨_, rfl, _, rfl, op_row T h64 (hx.same S4) (hy.same S4) (by decide) fun a5 G5 us5 fa5 sa5 rb5 hc5 => ?_⟩
    obtain ⟨d5, t5, i5⟩ := rb5.ins
    obtain ⟨u5, b5, c5, e5⟩ := rb5.els (by decide)
    refine ⟨a5, d5, _, rfl, i5, rfl, _, rfl, a5, u5, us5, r, rfl, b5, c5, e5, fun J5 sj5 => ?_⟩
    have S5 := S4.trans (sa5.trans sj5)
    refine ⟨_, rfl, _, rfl, op_row T h64 (hx.same S5) (hy.same S5) (by decide) fun a6 G6 us6 fa6 sa6 rb6 hc6 => ?_⟩
    obtain ⟨d6, t6, i6⟩ := rb6.ins
    obtain ⟨u6, b6, c6, e6⟩ := rb6.els (by decide)
    refine ⟨a6, d6, _, rfl, i6, rfl, _, rfl, a6, u6, us6, r, rfl, b6, c6, e6, fun J6 sj6 => ?_⟩
    have S6 := S5.trans (sa6.trans sj6)
    refine ⟨sz1000 (by show 2 ≤ 1000; decide), fun l7 H7 f7 m7 s7 g7 => ?_⟩
    have g6' := s7 _ _ (sj6 _ _ (sa6 _ _ (sj5 _ _ (sa5 _ _ g6))))
    refine ⟨l6, l7, _, _, rfl, rfl, g6', g7, sz1000 (by show 3 + 2 ≤ 1000; decide), fun l8 H8 f8 m8 s8 g8 => ?_⟩
    have S8 := (S6.trans s7).trans s8
    refine ⟨_, rfl, ?_⟩
    refine ⟨_, rfl, _, rfl, _, _, rfl, rfl, _, rfl, _, rfl, _, _, rfl, rfl, _, rfl, _, _, rfl, rfl, _, rfl, _, rfl, _, rfl, _, _, rfl, rfl, _, rfl, _, rfl, _, _, rfl, rfl, _, rfl, _, _, rfl, rfl, .inl ⟨by decide, by decide⟩, _, _, rfl, rfl, ?_⟩
    refine ⟨sz1000 (by show 5 ≤ 1000; decide), fun l9 H9 f9 m9 s9 g9 => ?_⟩
    have g8' : H9 l8 = some (.lst (([(cnt r us1 : Int), (cnt r us2 : Int), (cnt r us3 : Int), (cnt r us5 : Int), (cnt r us6 : Int)] : List Int).map V.int)) := s9 _ _ g8
    have g9' : H9 l9 = some (.lst (([(cnt r ps : Int) + (cnt r qs : Int), (cnt r ps : Int) + (cnt r qs : Int) - (min (cnt r ps) (cnt r qs) : Nat), ((min (cnt r ps) (cnt r qs) : Nat) : Int), (cnt r ps : Int) - (min (cnt r ps) (cnt r qs) : Nat), (cnt r ps : Int) + (cnt r qs : Int) - 2 * (min (cnt r ps) (cnt r qs) : Nat)] : List Int).map V.int)) := g9
    have eAB : ([(cnt r us1 : Int), (cnt r us2 : Int), (cnt r us3 : Int), (cnt r us5 : Int), (cnt r us6 : Int)] : List Int) = [(cnt r ps : Int) + (cnt r qs : Int), (cnt r ps : Int) + (cnt r qs : Int) - (min (cnt r ps) (cnt r qs) : Nat), ((min (cnt r ps) (cnt r qs) : Nat) : Int), (cnt r ps : Int) - (min (cnt r ps) (cnt r qs) : Nat), (cnt r ps : Int) + (cnt r qs : Int) - 2 * (min (cnt r ps) (cnt r qs) : Nat)] := by
      rw [hc1 r, hc2 r, hc3 r, hc5 r, hc6 r, show opN "+" (cnt r ps) (cnt r qs) = cnt r ps + cnt r qs from rfl, show opN "|" (cnt r ps) (cnt r qs) = cnt r ps + (cnt r qs - cnt r ps) from rfl, show opN "&" (cnt r ps) (cnt r qs) = min (cnt r ps) (cnt r qs) from rfl, show opN "-" (cnt r ps) (cnt r qs) = cnt r ps - cnt r qs from rfl, show opN "^" (cnt r ps) (cnt r qs) = cnt r ps - cnt r qs + (cnt r qs - cnt r ps) from rfl]
      generalize cnt r ps = m
      generalize cnt r qs = n
      simp only [List.cons.injEq, and_true]
      refine ⟨?_, ?_, trivial, ?_, ?_⟩ <;> omega
    refine ⟨.list (([(cnt r us1 : Int), (cnt r us2 : Int), (cnt r us3 : Int), (cnt r us5 : Int), (cnt r us6 : Int)] : List Int).map .int), .list (([(cnt r ps : Int) + (cnt r qs : Int), (cnt r ps : Int) + (cnt r qs : Int) - (min (cnt r ps) (cnt r qs) : Nat), ((min (cnt r ps) (cnt r qs) : Nat) : Int), (cnt r ps : Int) - (min (cnt r ps) (cnt r qs) : Nat), (cnt r ps : Int) + (cnt r qs : Int) - 2 * (min (cnt r ps) (cnt r qs) : Nat)] : List Int).map .int), .lst (SqL.of g8') (dp_ints _), .lst (SqL.of g9') (dp_ints _), shaped_ints _, shaped_ints _, ?_⟩
    have ev : ∀ A B : List Int, A = B → PyData.eqv (.list (A.map .int)) (.list (B.map .int)) = true := fun A B e => by
      rw [show PyData.eqv (.list (A.map .int)) (.list (B.map .int)) = PyData.eqvAll (A.map .int) (B.map .int) by simp only [PyData.eqv], eqv_ints, decide_eq_true e]
    rw [ev _ _ eAB]
    exact k H9 (S8.trans s9)
end
end K08
namespace K08
open PySem PySem.Spec PyProof.Rows L2 He Tw
abbrev s_lrow : Stmt := topS 35
abbrev N_lrow : List Str := ["_law_pen_here", "_law_ranks", "_law_found", "_law_rank", "_law_k"]
theorem sc_lrow : FnScope N_lrow ["_law_pen_here", "_law_ranks"] (defScope s_lrow) := ⟨rfl, rfl, rfl, by decide +kernel, rfl, by decide +kernel, by decide +kernel⟩
def spLRow (K : Fg) : Sp := fun vs H Q _ => ∃ (p l g0 : Addr) (c : Nat) (rs : List Int), vs = [.ref p, .ref g0] ∧ PenL H p l c ∧ c ≤ 800000 ∧ H g0 = some (.lst (rs.map V.int)) ∧ g0 ≠ p ∧ rs.Pairwise (· < ·) ∧ rs.length ≤ 12 ∧ (∀ r ∈ rs, rankOk (.int r) = true) ∧
  ∀ (a : Addr) (H' : Hp) (ps : List (Int × Str)), PenL H' p l (c + 60) → But p H H' → RowB K rs 48 H' a ps → ps.length ≤ 4 * rs.length → Q (.ref a) H'
def five : List Nat := [0, 1, 1, 2, 4]
theorem num_at5 {ns : List Nat} {r : Int} (h0 : 0 ≤ r) (h1 : r < ns.length) (h6 : ∀ n ∈ ns, n ≤ 4) : ∃ n : Nat, n ≤ 4 ∧ atI (ns.map fun n => V.int (n : Nat)) r = some (.int (n : Nat)) := by
  have hlt : r.toNat < ns.length := by omega
  refine ⟨ns[r.toNat], h6 _ (List.getElem_mem hlt), ?_⟩
  have e2 : (ns.map fun n => V.int (n : Nat))[r.toNat]? = some (V.int (ns[r.toNat] : Nat)) := by
    rw [List.getElem?_map, List.getElem?_eq_getElem hlt]
    rfl
  have h := atI_nat e2
  rw [Int.toNat_of_nonneg h0] at h
  exact h
section
variable {P : Program} {w : World} {K : Fg} {mg : Str → Option Value} {base : Heap} {fd : Nat → FuncData}
theorem ok_lrow {f fD fP : Addr} {fdF fdD fdP : FuncData} (D : DefsK K fd) (F : FnP K "_law_row" "_law_row" s_lrow f fdF) (FD : FnP K "_law_draw" "_law_draw" s_draw fD fdD) (gD : mg "_law_draw" = some (.ref fD)) (FP : FnP K "_law_pick" "_law_pick" s_pick fP fdP) (gP : mg "_law_pick" = some (.ref fP)) (T : Txt K mg) :
    FnOk P w K mg base CX0 8 f fdF ["_law_pen_here", "_law_ranks"] (spLRow K) := by
  have zr : mg "range" = none := T.bl (by decide +kernel)
  have gI : mg "Item" = some (.ref (ga K "Item")) := T.cl (by decide +kernel)
  have gR : mg "Row" = some (.ref (ga K "Row")) := T.cl (by decide +kernel)
  have GD : FnOk P w K mg base CX0 1 fD fdD ["_law_pen_here", "_law_many"] spDrawL := ok_draw FD T
  have bD : Binds K fdD ["_law_pen_here", "_law_many"] [] := FD.bindsN fun _ _ _ _ _ _ us hl => match us, hl with | [_, _], _ => rfl
  have GP : FnOk P w K mg base CX0 2 fP fdP ["_law_pen_here", "_law_some"] (spPickL K) := ok_pick FP FD gD T
  have bP : Binds K fdP ["_law_pen_here", "_law_some"] [] := FP.bindsN fun _ _ _ _ _ _ us hl => match us, hl with | [_, _], _ => rfl
  obtain ⟨d2, I⟩ := itm (P := P) (w := w) (base := base) D T
  have Gr : FnOk P w K mg base (L2.CX P w) 6 (ma K (ga K "Row") "__init__") (fd 6) ["self", "items"] (spRow K) := G_row D T
  refine F.ok sc_lrow (fun vs H Q E h => ?_) (fun cdv A outer s H vs Q E hr h => ?_)
  · obtain ⟨p, l, g0, c, rs, rfl, _⟩ := h
    rfl
  · obtain ⟨p, l, g0, c, rs, rfl, hP, hc, hg0, ng0, hrs, hl, hok, k⟩ := h
    refine ⟨_, PSs.nox (pss_cons (ps_set (i := 2) sc_lrow.nd rfl (Or.inl rfl) (pe_lstN pa_nil))
    (pss_cons (ps_for PassesOwn.never rfl (pi_list (pv 1)) (pg_name (i := 3) sc_lrow.nd rfl (Or.inl rfl))
    (pss_one (ps_for PassesOwn.never rfl (pi_range1 rfl zr (pa_cons (pe_ix ix_list (pe_lstN (pa_cons pe_int (pa_cons pe_int (pa_cons pe_int (pa_cons pe_int (pa_cons pe_int pa_nil)))))) (pe_call GD (hr.mono (by decide)) rfl gD FD.kp bD .nil pass0 (pa_cons (pv 0) (pa_cons pe_int pa_nil))) (fun _ _ => rfl)) pa_nil)) (pg_name (i := 4) sc_lrow.nd rfl (Or.inl rfl))
    (pss_one (ps_expr (pe_bm PySem.F.plainAttrs_list PySem.F.slot_list_append PySem.F.type_list_append mt_append (pv 2) (pa_cons (pe_make (E := E0) T.mkI I.ok (hr.mono (by decide)) rfl gI I.b .nil passL (pa_cons (pv 3) (pa_cons (pe_call GP (hr.mono (by decide)) rfl gP FP.kp bP .nil pass0 (pa_cons (pv 0) (pa_cons (pe_lstN (pa_cons pe_str (pa_cons pe_str (pa_cons pe_str pa_nil)))) pa_nil))) pa_nil))) pa_nil)))))))
    (pss_one (ps_ret (pe_make (E := E0) T.mkR Gr (hr.mono (by decide)) rfl gR (bRow D) .nil passL (pa_cons (pv 2) pa_nil)))))), ?_⟩
    refine ⟨sz1000 (Nat.zero_le _), fun g H1 f1 m1 s1 g1 => ?_⟩
    obtain ⟨ngp, ngl⟩ := hP.new f1
    have lr : (rs.map V.int).length = rs.length := List.length_map ..
    refine ⟨_, rfl, g0, rfl, ⟨_, SqL.of (s1 _ _ hg0)⟩, for_list (K := K) (a := g0) (xs := rs.map V.int) (fun i σ H' => ∃ (v3 v4 : Option V) (xs : List V) (ps : List (Int × Str)), σ = [some (.ref p), some (.ref g0), some (.ref g), v3, v4] ∧ PenL H' p l (c + 5 * i) ∧ But p H H' ∧ H' g = some (.lst xs) ∧ Vals' K H' xs ps ∧ Asc ps ∧ ps.length ≤ 4 * i ∧ ∀ q ∈ ps, q.1 ∈ rs.take i)
      ⟨none, none, [], [], rfl, hP.same s1, But.of s1, g1, .nil, List.Pairwise.nil, Nat.le_refl _, fun _ h => nomatch h⟩ (fun i σ H' _ ⟨_, _, _, _, _, _, b, _⟩ => SqL.of (b _ _ hg0 ng0)) ?_ ?_⟩
    · rintro i x σ H2 hx ⟨v3, v4, xs, ps, rfl, P2, B2, g2, vv, asc, lp, inr⟩
      obtain ⟨r, er, rfl⟩ : ∃ r, rs[i]? = some r ∧ x = .int r := by
        rw [List.getElem?_map] at hx
        cases e : rs[i]? with
        | none =>
          rw [e] at hx
          cases hx
        | some r =>
          rw [e] at hx
          cases hx
          exact ⟨r, rfl, rfl⟩
      have hi : i < rs.length := (List.getElem?_eq_some_iff.mp er).1
      have tk : rs.take (i + 1) = rs.take i ++ [r] := by rw [List.take_add_one, er]; rfl
      have hro := hok r (List.mem_of_getElem? er)
      have below : ∀ y ∈ rs.take i, y < r := fun y hy => by
        have h1 : (rs.take i ++ [r]).Pairwise (· < ·) := by
          rw [← tk]
          exact hrs.sublist (List.take_sublist _ _)
        exact (List.pairwise_append.mp h1).2.2 y hy r List.mem_cons_self
      refine ⟨sz1000 (by show 5 ≤ 1000; decide), fun q4 H4 f4 m4 s4 g4 => ?_⟩
      refine ⟨_, rfl, p, l, 5, c + 5 * i, rfl, by decide, by decide, P2.same s4, by omega, fun d H5 d0 d5 P5 B5 => ?_⟩
      have n4 : q4 ≠ p := (P2.new f4).1
      obtain ⟨m, hm4, hix⟩ := num_at5 (ns := five) d0 d5 (by decide)
      refine ⟨q4, _, d, .int (m : Nat), rfl, rfl, SqL.of (B5 _ _ g4 n4), hix, ?_⟩
      have B25 : But p H2 H5 := (But.of s4).trans B5
      have kp25 : ∀ a dx j u, H2 a = some (.ins (ga K "Item") dx [("rank", .int j), ("name", .str u)]) → H5 a = some (.ins (ga K "Item") dx [("rank", .int j), ("name", .str u)]) := fun a dx j u e => B25 _ _ e (fun h => by
        obtain ⟨ns, i', g', h1, _⟩ := P2
        rw [h, h1] at e
        cases e)
      clear g4 hix
      refine ⟨(m : Nat), rfl, by omega, by omega, ?_⟩
      refine for_range (lo := 0) (n := ((m : Nat) : Int).toNat) (fun j σ H' => ∃ (v4 : Option V) (xs : List V) (ps : List (Int × Str)), σ = [some (.ref p), some (.ref g0), some (.ref g), some (.int r), v4] ∧ PenL H' p l (c + 5 * i + 1 + j) ∧ But p H H' ∧ H' g = some (.lst xs) ∧ Vals' K H' xs ps ∧ Asc ps ∧ ps.length ≤ 4 * i + j ∧ ∀ q ∈ ps, q.1 ∈ rs.take i ∨ q.1 = r)
        ⟨v4, xs, ps, rfl, P5, B2.trans B25, B25 _ _ g2 ngp, vv.keep kp25, asc, lp, fun q hq => .inl (inr q hq)⟩ ?_ ?_
      · rintro j σ G0 hj ⟨v4, xs, ps, rfl, P0, B0, gg0, vv, asc, lp, inr⟩
        rw [Int.toNat_natCast] at hj
        have lxs : xs.length = ps.length := Paired.length vv
        refine ⟨_, rfl, .inl ⟨rfl, _, SqL.of gg0⟩, ?_⟩
        refine ⟨_, rfl, _, rfl, sz1000 (by show 3 ≤ 1000; decide), fun q5 G1 f5 m5 s5 g5 => ?_⟩
        have n5 : q5 ≠ p := (P0.new f5).1
        refine ⟨p, l, q5, _, c + 5 * i + 1 + j, rfl, SqL.of g5, n5, (by show 0 < 3; decide), (by show 3 < 1000; decide), P0.same s5, by omega, fun v G2 hv P6 B6 => ?_⟩
        obtain ⟨z, rfl, nz, lz⟩ : ∃ z : Str, v = .str z ∧ nameOk (.str z) = true ∧ z.length ≤ 1000 := by
          simp only [List.mem_cons, List.not_mem_nil, or_false] at hv
          rcases hv with rfl | rfl | rfl
          all_goals exact ⟨_, rfl, by decide +kernel, by decide +kernel⟩
        have B02 : But p G0 G2 := (But.of s5).trans B6
        refine fun y dy h1 h2 h3 => item_mk h1 h2 h3 hro nz lz fun G3 I4 s7 => ⟨rfl, ?_⟩
        have g7 := s7 _ _ (B02 _ _ gg0 ngp)
        have kp : ∀ a dx j u, G0 a = some (.ins (ga K "Item") dx [("rank", .int j), ("name", .str u)]) → (upd G3 g (.lst (xs ++ [.ref y]))) a = some (.ins (ga K "Item") dx [("rank", .int j), ("name", .str u)]) := fun a dx j u e => by
          have e3 := s7 _ _ (B02 _ _ e (fun h => by
            obtain ⟨ns, i', g', h1, _⟩ := P0
            rw [h, h1] at e
            cases e))
          rw [upd_ne (fun h => by
            rw [h, g7] at e3
            cases e3)]
          exact e3
        have Iy : It K (upd G3 g (.lst (xs ++ [.ref y]))) y r z := by
          obtain ⟨dx, e⟩ := I4
          refine ⟨dx, ?_⟩
          rw [upd_ne (fun h => by
            rw [h, g7] at e
            cases e)]
          exact e
        refine ⟨g, _, _, rfl, rfl, g7, Nat.lt_of_le_of_lt (show xs.length ≤ 100 by omega) (by decide), ?_⟩
        refine ⟨_, xs ++ [.ref y], ps ++ [(r, z)], rfl, (P6.same s7).upd ngp ngl, fun b o hb hbp => ?_, upd_same, Vals'.snoc (vv.keep kp) (.item Iy), ?_, ?_, fun q hq => ?_⟩
        · rw [upd_ne (ne_of_none hb f1)]
          exact s7 _ _ (B02 _ _ (B0 _ _ hb hbp) hbp)
        · refine List.pairwise_append.mpr ⟨asc, List.pairwise_singleton _ _, fun a ha b hb => ?_⟩
          rw [List.mem_singleton.mp hb]
          rcases inr a ha with q | q
          · exact Int.le_of_lt (below _ q)
          · show a.1 ≤ r
            omega
        · rw [List.length_append, List.length_singleton]
          omega
        · rcases List.mem_append.mp hq with h | h
          · exact inr q h
          · rw [List.mem_singleton.mp h]
            exact .inr rfl
      · rintro σ G0 ⟨v4, xs, ps, rfl, P0, B0, gg0, vv, asc, lp, inr⟩
        rw [Int.toNat_natCast] at P0 lp
        refine ⟨_, _, xs, ps, rfl, P0.mono (by omega), B0, gg0, vv, asc, by omega, fun q hq => ?_⟩
        rw [tk]
        rcases inr q hq with h | h
        · exact List.mem_append_left _ h
        · exact List.mem_append_right _ (by rw [h]; exact List.mem_cons_self)
    · rintro σ H2 ⟨v3, v4, xs, ps, rfl, P2, B2, g2, vv, asc, lp, inr⟩
      rw [lr] at P2 lp inr
      rw [List.take_length] at inr
      refine ⟨_, rfl, fun a da ha hda hna => row_to ha hda hna (vals_src (.inl (SqL.of g2)) vv (by omega)) (asc_up asc) (by omega) fun G2 ua s2 ra ia => ⟨rfl, ?_⟩⟩
      refine k a G2 ps ((P2.same s2).mono (by omega)) (B2.trans (But.of s2)) ⟨⟨ua, ra, ia⟩, asc, by omega, fun r hr => ?_⟩ lp
      obtain ⟨q, hq, rfl⟩ := List.mem_map.mp hr
      exact inr q hq
end
end K08
namespace K08
open PySem PySem.Spec PyProof.Rows L2 He Tw
theorem opN_add (m n : Nat) : opN "+" m n = m + n := rfl
theorem opN_or (m n : Nat) : opN "|" m n = m + (n - m) := rfl
theorem opN_and (m n : Nat) : opN "&" m n = min m n := rfl
theorem opN_sub (m n : Nat) : opN "-" m n = m - n := rfl
theorem opN_xor (m n : Nat) : opN "^" m n = m - n + (n - m) := rfl
/-- no rank has more items in ps than in qs -/
def inB (ps qs : List (Int × Str)) : Bool := ps.all fun q => decide (cnt q.1 ps ≤ cnt q.1 qs)
theorem inB_iff {ps qs : List (Int × Str)} : inB ps qs = true ↔ ∀ r, cnt r ps ≤ cnt r qs := by
  unfold inB
  rw [List.all_eq_true]
  constructor
  · intro h r
    by_cases hr : r ∈ rk ps
    · obtain ⟨q, hq, rfl⟩ := List.mem_map.mp hr
      exact of_decide_eq_true (h q hq)
    · rw [cnt_zero hr]
      exact Nat.zero_le _
  · exact fun h q _ => decide_eq_true (h q.1)
def spWithin (K : Fg) : Sp := fun vs H Q _ => ∃ (a b : Addr) (ys zs : List V) (ps us : List (Int × Str)), vs = [.ref a, .ref b] ∧ RowAt K H a ys ∧ Its K H ys ps ∧ ys.length ≤ 900 ∧ Asc ps ∧ RowAt K H b zs ∧ Its K H zs us ∧ zs.length ≤ 900 ∧ Asc us ∧ ∀ H', Same H H' → Q (.bl (inB ps us)) H'
theorem eq_row {K : Fg} {mg : Str → Option Value} (T : Txt K mg) {rs : List Int} {n m : Nat} {H : Hp} {x y : Addr} {ps qs : List (Int × Str)} {Q : VK} {E : XK} (hx : RowB K rs n H x ps) (hy : RowB K rs m H y qs) (hn : n ≤ 900) (hm : m ≤ 900)
    (k : ∀ H', Same H H' → Q (.bl (decide (rk ps = rk qs))) H') : rEqOwn K (ga K "Row") (spEqB K) E (.ref x) (.ref y) H Q := by
  obtain ⟨dx, tx, ix⟩ := hx.ins
  obtain ⟨dy, ty, iy⟩ := hy.ins
  obtain ⟨xs, x1, x2, x3⟩ := hx.els hn
  obtain ⟨ys, y1, y2, y3⟩ := hy.els hm
  exact ⟨x, dx, _, .ref (ga K "Row"), rfl, ix, .inl (.base (.ins iy T.clsR (T.ob (by decide +kernel)).2 T.xo.hn T.xo.ht (T.ob (by decide +kernel)).1)), T.nfR, x, y, xs, ys, ps, qs, rfl, x1, x2, x3, y1, y2, y3, k⟩
abbrev s_three : Stmt := topS 38
abbrev N_three : List Str := ["_law_one", "_law_other", "_law_third"]
theorem sc_three : FnScope N_three ["_law_one", "_law_other", "_law_third"] (defScope s_three) := ⟨rfl, rfl, rfl, by decide +kernel, rfl, by decide +kernel, by decide +kernel⟩
def spThree (K : Fg) : Sp := fun vs H Q _ => ∃ (x y z : Addr) (rs : List Int) (ps qs zs : List (Int × Str)), vs = [.ref x, .ref y, .ref z] ∧ rs.length < 64 ∧ RowB K rs 48 H x ps ∧ RowB K rs 48 H y qs ∧ RowB K rs 48 H z zs ∧ ∀ H', Same H H' → Q (.bl true) H'
section
variable {P : Program} {w : World} {K : Fg} {mg : Str → Option Value} {base : Heap} {fd : Nat → FuncData}
theorem ok_three {f : Addr} {fdF fdE fdK fdW : FuncData} (D : DefsK K fd) (F : FnP K "_law_three_right" "_law_three_right" s_three f fdF) (FE : FnP K "__eq__" "Row.__eq__" s_eqr (ma K (ga K "Row") "__eq__") fdE) (FK : FnP K "ranks" "Row.ranks" s_rks (ma K (ga K "Row") "ranks") fdK)
    (GW : FnOk P w K mg base CX0 9 (ma K (ga K "Row") "within") fdW ["self", "other"] (spWithin K)) (bW : Binds K fdW ["self", "other"] []) (T : Txt K mg) : FnOk P w K mg base CX0 12 f fdF ["_law_one", "_law_other", "_law_third"] (spThree K) := by
  have GE : FnOk P w K mg base CX0 2 _ fdE ["self", "other"] (spEqB K) := ok_eqb FE FK T
  have bE : Binds K fdE ["self", "other"] [] := FE.bindsN fun _ _ _ _ _ _ us hl => match us, hl with | [_, _], _ => rfl
  have mE := T.mtR2 (m := "__eq__") (by decide +kernel)
  have mW := T.mtR2 (m := "within") (by decide +kernel)
  refine F.ok sc_three (fun vs H Q E h => ?_) (fun cdv A outer s H vs Q E hr h => ?_)
  · obtain ⟨x, y, z, rs, ps, qs, zs, rfl, _⟩ := h
    rfl
  · obtain ⟨x, y, z, rs, ps, qs, zs, rfl, h64, hx, hy, hz, k⟩ := h
    refine ⟨_, PSs.nox (pss_cons (ps_if (PW.pt (pw_or (pt_not (pt_cmpR (op_eqOwn (E := E0) mE.at_ mE.fn GE (hr.mono (by decide)) bE pass0) (pe_op (opo_or (E := E0) D T (hr.mono (by decide)) passL) (pe_op (opo_or (E := E0) D T (hr.mono (by decide)) passL) (pv 0) (pv 1)) (pv 2)) (pe_op (opo_or (E := E0) D T (hr.mono (by decide)) passL) (pv 0) (pe_op (opo_or (E := E0) D T (hr.mono (by decide)) passL) (pv 1) (pv 2))) (nomark _))) (pw_or1 (pt_not (pt_cmpR (op_eqOwn (E := E0) mE.at_ mE.fn GE (hr.mono (by decide)) bE pass0) (pe_op (opo_and (E := E0) D T (hr.mono (by decide)) passL) (pe_op (opo_and (E := E0) D T (hr.mono (by decide)) passL) (pv 0) (pv 1)) (pv 2)) (pe_op (opo_and (E := E0) D T (hr.mono (by decide)) passL) (pv 0) (pe_op (opo_and (E := E0) D T (hr.mono (by decide)) passL) (pv 1) (pv 2))) (nomark _)))))) (pss_one (ps_ret pe_bl)) pss_nil)
    (pss_cons (ps_if (PW.pt (pw_or (pt_not (pt_cmpR (op_eqOwn (E := E0) mE.at_ mE.fn GE (hr.mono (by decide)) bE pass0) (pe_op (opo_and (E := E0) D T (hr.mono (by decide)) passL) (pv 0) (pe_op (opo_or (E := E0) D T (hr.mono (by decide)) passL) (pv 1) (pv 2))) (pe_op (opo_or (E := E0) D T (hr.mono (by decide)) passL) (pe_op (opo_and (E := E0) D T (hr.mono (by decide)) passL) (pv 0) (pv 1)) (pe_op (opo_and (E := E0) D T (hr.mono (by decide)) passL) (pv 0) (pv 2))) (nomark _))) (pw_or1 (pt_not (pt_cmpR (op_eqOwn (E := E0) mE.at_ mE.fn GE (hr.mono (by decide)) bE pass0) (pe_op (opo_add (E := E0) D T (hr.mono (by decide)) passL) (pv 0) (pe_op (opo_add (E := E0) D T (hr.mono (by decide)) passL) (pv 1) (pv 2))) (pe_op (opo_add (E := E0) D T (hr.mono (by decide)) passL) (pe_op (opo_add (E := E0) D T (hr.mono (by decide)) passL) (pv 2) (pv 1)) (pv 0)) (nomark _)))))) (pss_one (ps_ret pe_bl)) pss_nil)
    (pss_cons (ps_if (PW.pt (pw_or (pt_not (pt_cmpR (op_eqOwn (E := E0) mE.at_ mE.fn GE (hr.mono (by decide)) bE pass0) (pe_op (opo_or (E := E0) D T (hr.mono (by decide)) passL) (pv 0) (pe_op (opo_and (E := E0) D T (hr.mono (by decide)) passL) (pv 1) (pv 2))) (pe_op (opo_and (E := E0) D T (hr.mono (by decide)) passL) (pe_op (opo_or (E := E0) D T (hr.mono (by decide)) passL) (pv 0) (pv 1)) (pe_op (opo_or (E := E0) D T (hr.mono (by decide)) passL) (pv 0) (pv 2))) (nomark _))) (pw_or1 (pt_not (pt_cmpR (op_eqOwn (E := E0) mE.at_ mE.fn GE (hr.mono (by decide)) bE pass0) (pe_op (opo_sub (E := E0) D T (hr.mono (by decide)) passL) (pe_op (opo_sub (E := E0) D T (hr.mono (by decide)) passL) (pv 0) (pv 1)) (pv 2)) (pe_op (opo_sub (E := E0) D T (hr.mono (by decide)) passL) (pv 0) (pe_op (opo_add (E := E0) D T (hr.mono (by decide)) passL) (pv 1) (pv 2))) (nomark _)))))) (pss_one (ps_ret pe_bl)) pss_nil)
    (pss_one (ps_ret (pe_or (pe_not (pe_meth (E := E0) (pv 0) T.clsR mW GW (hr.mono (by decide)) bW .nil pass0 (pa_cons (pv 1) pa_nil))) (pe_one (pe_and (pe_meth (E := E0) (pe_op (opo_and (E := E0) D T (hr.mono (by decide)) passL) (pv 0) (pv 2)) T.clsR mW GW (hr.mono (by decide)) bW .nil pass0 (pa_cons (pe_op (opo_and (E := E0) D T (hr.mono (by decide)) passL) (pv 1) (pv 2)) pa_nil)) (pe_one (pe_meth (E := E0) (pe_op (opo_sub (E := E0) D T (hr.mono (by decide)) passL) (pv 0) (pv 2)) T.clsR mW GW (hr.mono (by decide)) bW .nil pass0 (pa_cons (pe_op (opo_sub (E := E0) D T (hr.mono (by decide)) passL) (pv 1) (pv 2)) pa_nil))))))))))), ?_⟩
    have S : Same H H := fun _ _ e => e
    refine ⟨_, rfl, _, rfl, op_row T h64 hx hy (by decide) fun a1 G1 us1 fa1 sa1 rb1 hc1 => ?_⟩
    have hx := hx.same sa1
    have hy := hy.same sa1
    have hz := hz.same sa1
    have S := S.trans sa1
    refine ⟨_, rfl, op_row T h64 rb1 hz (by decide) fun a2 G2 us2 fa2 sa2 rb2 hc2 => ?_⟩
    have hx := hx.same sa2
    have hy := hy.same sa2
    have hz := hz.same sa2
    have rb1 := rb1.same sa2
    have S := S.trans sa2
    refine ⟨_, rfl, _, rfl, _, rfl, op_row T h64 hy hz (by decide) fun a3 G3 us3 fa3 sa3 rb3 hc3 => ?_⟩
    have hx := hx.same sa3
    have hy := hy.same sa3
    have hz := hz.same sa3
    have rb1 := rb1.same sa3
    have rb2 := rb2.same sa3
    have S := S.trans sa3
    refine op_row T h64 hx rb3 (by decide) fun a4 G4 us4 fa4 sa4 rb4 hc4 => ?_
    have hx := hx.same sa4
    have hy := hy.same sa4
    have hz := hz.same sa4
    have rb1 := rb1.same sa4
    have rb2 := rb2.same sa4
    have rb3 := rb3.same sa4
    have S := S.trans sa4
    refine eq_row T rb2 rb4 (by decide) (by decide) fun G5 sa5 => ?_
    have e5 : rk us2 = rk us4 := (asc_one rb2.asc rb4.asc).mpr fun r => by
      rw [hc2 r, hc1 r, hc4 r, hc3 r]
      simp only [opN_add, opN_or, opN_and, opN_sub, opN_xor]
      generalize cnt r ps = m
      generalize cnt r qs = n
      try generalize cnt r zs = o
      omega
    rw [decide_eq_true e5]
    have hx := hx.same sa5
    have hy := hy.same sa5
    have hz := hz.same sa5
    have rb1 := rb1.same sa5
    have rb2 := rb2.same sa5
    have rb3 := rb3.same sa5
    have rb4 := rb4.same sa5
    have S := S.trans sa5
    refine ⟨_, rfl, iteF ?_⟩
    refine ⟨_, rfl, _, rfl, op_row T h64 hx hy (by decide) fun a6 G6 us6 fa6 sa6 rb6 hc6 => ?_⟩
    have hx := hx.same sa6
    have hy := hy.same sa6
    have hz := hz.same sa6
    have rb1 := rb1.same sa6
    have rb2 := rb2.same sa6
    have rb3 := rb3.same sa6
    have rb4 := rb4.same sa6
    have S := S.trans sa6
    refine ⟨_, rfl, op_row T h64 rb6 hz (by decide) fun a7 G7 us7 fa7 sa7 rb7 hc7 => ?_⟩
    have hx := hx.same sa7
    have hy := hy.same sa7
    have hz := hz.same sa7
    have rb1 := rb1.same sa7
    have rb2 := rb2.same sa7
    have rb3 := rb3.same sa7
    have rb4 := rb4.same sa7
    have rb6 := rb6.same sa7
    have S := S.trans sa7
    refine ⟨_, rfl, _, rfl, _, rfl, op_row T h64 hy hz (by decide) fun a8 G8 us8 fa8 sa8 rb8 hc8 => ?_⟩
    have hx := hx.same sa8
    have hy := hy.same sa8
    have hz := hz.same sa8
    have rb1 := rb1.same sa8
    have rb2 := rb2.same sa8
    have rb3 := rb3.same sa8
    have rb4 := rb4.same sa8
    have rb6 := rb6.same sa8
    have rb7 := rb7.same sa8
    have S := S.trans sa8
    refine op_row T h64 hx rb8 (by decide) fun a9 G9 us9 fa9 sa9 rb9 hc9 => ?_
    have hx := hx.same sa9
    have hy := hy.same sa9
    have hz := hz.same sa9
    have rb1 := rb1.same sa9
    have rb2 := rb2.same sa9
    have rb3 := rb3.same sa9
    have rb4 := rb4.same sa9
    have rb6 := rb6.same sa9
    have rb7 := rb7.same sa9
    have rb8 := rb8.same sa9
    have S := S.trans sa9
    refine eq_row T rb7 rb9 (by decide) (by decide) fun G10 sa10 => ?_
    have e10 : rk us7 = rk us9 := (asc_one rb7.asc rb9.asc).mpr fun r => by
      rw [hc7 r, hc6 r, hc9 r, hc8 r]
      simp only [opN_add, opN_or, opN_and, opN_sub, opN_xor]
      generalize cnt r ps = m
      generalize cnt r qs = n
      try generalize cnt r zs = o
      omega
    rw [decide_eq_true e10]
    have hx := hx.same sa10
    have hy := hy.same sa10
    have hz := hz.same sa10
    have rb1 := rb1.same sa10
    have rb2 := rb2.same sa10
    have rb3 := rb3.same sa10
    have rb4 := rb4.same sa10
    have rb6 := rb6.same sa10
    have rb7 := rb7.same sa10
    have rb8 := rb8.same sa10
    have rb9 := rb9.same sa10
    have S := S.trans sa10
    refine ⟨_, rfl, iteF ?_⟩
    refine ⟨_, rfl, _, rfl, _, rfl, op_row T h64 hy hz (by decide) fun a11 G11 us11 fa11 sa11 rb11 hc11 => ?_⟩
    have hx := hx.same sa11
    have hy := hy.same sa11
    have hz := hz.same sa11
    have rb1 := rb1.same sa11
    have rb2 := rb2.same sa11
    have rb3 := rb3.same sa11
    have rb4 := rb4.same sa11
    have rb6 := rb6.same sa11
    have rb7 := rb7.same sa11
    have rb8 := rb8.same sa11
    have rb9 := rb9.same sa11
    have S := S.trans sa11
    refine op_row T h64 hx rb11 (by decide) fun a12 G12 us12 fa12 sa12 rb12 hc12 => ?_
    have hx := hx.same sa12
    have hy := hy.same sa12
    have hz := hz.same sa12
    have rb1 := rb1.same sa12
    have rb2 := rb2.same sa12
    have rb3 := rb3.same sa12
    have rb4 := rb4.same sa12
    have rb6 := rb6.same sa12
    have rb7 := rb7.same sa12
    have rb8 := rb8.same sa12
    have rb9 := rb9.same sa12
    have rb11 := rb11.same sa12
    have S := S.trans sa12
    refine ⟨_, rfl, _, rfl, op_row T h64 hx hy (by decide) fun a13 G13 us13 fa13 sa13 rb13 hc13 => ?_⟩
    have hx := hx.same sa13
    have hy := hy.same sa13
    have hz := hz.same sa13
    have rb1 := rb1.same sa13
    have rb2 := rb2.same sa13
    have rb3 := rb3.same sa13
    have rb4 := rb4.same sa13
    have rb6 := rb6.same sa13
    have rb7 := rb7.same sa13
    have rb8 := rb8.same sa13
    have rb9 := rb9.same sa13
    have rb11 := rb11.same sa13
    have rb12 := rb12.same sa13
    have S := S.trans sa13
    refine ⟨_, rfl, _, rfl, op_row T h64 hx hz (by decide) fun a14 G14 us14 fa14 sa14 rb14 hc14 => ?_⟩
    have hx := hx.same sa14
    have hy := hy.same sa14
    have hz := hz.same sa14
    have rb1 := rb1.same sa14
    have rb2 := rb2.same sa14
    have rb3 := rb3.same sa14
    have rb4 := rb4.same sa14
    have rb6 := rb6.same sa14
    have rb7 := rb7.same sa14
    have rb8 := rb8.same sa14
    have rb9 := rb9.same sa14
    have rb11 := rb11.same sa14
    have rb12 := rb12.same sa14
    have rb13 := rb13.same sa14
    have S := S.trans sa14
    refine op_row T h64 rb13 rb14 (by decide) fun a15 G15 us15 fa15 sa15 rb15 hc15 => ?_
    have hx := hx.same sa15
    have hy := hy.same sa15
    have hz := hz.same sa15
    have rb1 := rb1.same sa15
    have rb2 := rb2.same sa15
    have rb3 := rb3.same sa15
    have rb4 := rb4.same sa15
    have rb6 := rb6.same sa15
    have rb7 := rb7.same sa15
    have rb8 := rb8.same sa15
    have rb9 := rb9.same sa15
    have rb11 := rb11.same sa15
    have rb12 := rb12.same sa15
    have rb13 := rb13.same sa15
    have rb14 := rb14.same sa15
    have S := S.trans sa15
    refine eq_row T rb12 rb15 (by decide) (by decide) fun G16 sa16 => ?_
    have e16 : rk us12 = rk us15 := (asc_one rb12.asc rb15.asc).mpr fun r => by
      rw [hc12 r, hc11 r, hc15 r, hc13 r, hc14 r]
      simp only [opN_add, opN_or, opN_and, opN_sub, opN_xor]
      generalize cnt r ps = m
      generalize cnt r qs = n
      try generalize cnt r zs = o
      omega
    rw [decide_eq_true e16]
    have hx := hx.same sa16
    have hy := hy.same sa16
    have hz := hz.same sa16
    have rb1 := rb1.same sa16
    have rb2 := rb2.same sa16
    have rb3 := rb3.same sa16
    have rb4 := rb4.same sa16
    have rb6 := rb6.same sa16
    have rb7 := rb7.same sa16
    have rb8 := rb8.same sa16
    have rb9 := rb9.same sa16
    have rb11 := rb11.same sa16
    have rb12 := rb12.same sa16
    have rb13 := rb13.same sa16
    have rb14 := rb14.same sa16
    have rb15 := rb15.same sa16
    have S := S.trans sa16
    refine ⟨_, rfl, iteF ?_⟩
    refine ⟨_, rfl, _, rfl, _, rfl, op_row T h64 hy hz (by decide) fun a17 G17 us17 fa17 sa17 rb17 hc17 => ?_⟩
    have hx := hx.same sa17
    have hy := hy.same sa17
    have hz := hz.same sa17
    have rb1 := rb1.same sa17
    have rb2 := rb2.same sa17
    have rb3 := rb3.same sa17
    have rb4 := rb4.same sa17
    have rb6 := rb6.same sa17
    have rb7 := rb7.same sa17
    have rb8 := rb8.same sa17
    have rb9 := rb9.same sa17
    have rb11 := rb11.same sa17
    have rb12 := rb12.same sa17
    have rb13 := rb13.same sa17
    have rb14 := rb14.same sa17
    have rb15 := rb15.same sa17
    have S := S.trans sa17
    refine op_row T h64 hx rb17 (by decide) fun a18 G18 us18 fa18 sa18 rb18 hc18 => ?_
    have hx := hx.same sa18
    have hy := hy.same sa18
    have hz := hz.same sa18
    have rb1 := rb1.same sa18
    have rb2 := rb2.same sa18
    have rb3 := rb3.same sa18
    have rb4 := rb4.same sa18
    have rb6 := rb6.same sa18
    have rb7 := rb7.same sa18
    have rb8 := rb8.same sa18
    have rb9 := rb9.same sa18
    have rb11 := rb11.same sa18
    have rb12 := rb12.same sa18
    have rb13 := rb13.same sa18
    have rb14 := rb14.same sa18
    have rb15 := rb15.same sa18
    have rb17 := rb17.same sa18
    have S := S.trans sa18
    refine ⟨_, rfl, _, rfl, op_row T h64 hz hy (by decide) fun a19 G19 us19 fa19 sa19 rb19 hc19 => ?_⟩
    have hx := hx.same sa19
    have hy := hy.same sa19
    have hz := hz.same sa19
    have rb1 := rb1.same sa19
    have rb2 := rb2.same sa19
    have rb3 := rb3.same sa19
    have rb4 := rb4.same sa19
    have rb6 := rb6.same sa19
    have rb7 := rb7.same sa19
    have rb8 := rb8.same sa19
    have rb9 := rb9.same sa19
    have rb11 := rb11.same sa19
    have rb12 := rb12.same sa19
    have rb13 := rb13.same sa19
    have rb14 := rb14.same sa19
    have rb15 := rb15.same sa19
    have rb17 := rb17.same sa19
    have rb18 := rb18.same sa19
    have S := S.trans sa19
    refine ⟨_, rfl, op_row T h64 rb19 hx (by decide) fun a20 G20 us20 fa20 sa20 rb20 hc20 => ?_⟩
    have hx := hx.same sa20
    have hy := hy.same sa20
    have hz := hz.same sa20
    have rb1 := rb1.same sa20
    have rb2 := rb2.same sa20
    have rb3 := rb3.same sa20
    have rb4 := rb4.same sa20
    have rb6 := rb6.same sa20
    have rb7 := rb7.same sa20
    have rb8 := rb8.same sa20
    have rb9 := rb9.same sa20
    have rb11 := rb11.same sa20
    have rb12 := rb12.same sa20
    have rb13 := rb13.same sa20
    have rb14 := rb14.same sa20
    have rb15 := rb15.same sa20
    have rb17 := rb17.same sa20
    have rb18 := rb18.same sa20
    have rb19 := rb19.same sa20
    have S := S.trans sa20
    refine eq_row T rb18 rb20 (by decide) (by decide) fun G21 sa21 => ?_
    have e21 : rk us18 = rk us20 := (asc_one rb18.asc rb20.asc).mpr fun r => by
      rw [hc18 r, hc17 r, hc20 r, hc19 r]
      simp only [opN_add, opN_or, opN_and, opN_sub, opN_xor]
      generalize cnt r ps = m
      generalize cnt r qs = n
      try generalize cnt r zs = o
      omega
    rw [decide_eq_true e21]
    have hx := hx.same sa21
    have hy := hy.same sa21
    have hz := hz.same sa21
    have rb1 := rb1.same sa21
    have rb2 := rb2.same sa21
    have rb3 := rb3.same sa21
    have rb4 := rb4.same sa21
    have rb6 := rb6.same sa21
    have rb7 := rb7.same sa21
    have rb8 := rb8.same sa21
    have rb9 := rb9.same sa21
    have rb11 := rb11.same sa21
    have rb12 := rb12.same sa21
    have rb13 := rb13.same sa21
    have rb14 := rb14.same sa21
    have rb15 := rb15.same sa21
    have rb17 := rb17.same sa21
    have rb18 := rb18.same sa21
    have rb19 := rb19.same sa21
    have rb20 := rb20.same sa21
    have S := S.trans sa21
    refine ⟨_, rfl, iteF ?_⟩
    refine ⟨_, rfl, _, rfl, _, rfl, op_row T h64 hy hz (by decide) fun a22 G22 us22 fa22 sa22 rb22 hc22 => ?_⟩
    have hx := hx.same sa22
    have hy := hy.same sa22
    have hz := hz.same sa22
    have rb1 := rb1.same sa22
    have rb2 := rb2.same sa22
    have rb3 := rb3.same sa22
    have rb4 := rb4.same sa22
    have rb6 := rb6.same sa22
    have rb7 := rb7.same sa22
    have rb8 := rb8.same sa22
    have rb9 := rb9.same sa22
    have rb11 := rb11.same sa22
    have rb12 := rb12.same sa22
    have rb13 := rb13.same sa22
    have rb14 := rb14.same sa22
    have rb15 := rb15.same sa22
    have rb17 := rb17.same sa22
    have rb18 := rb18.same sa22
    have rb19 := rb19.same sa22
    have rb20 := rb20.same sa22
    have S := S.trans sa22
    refine op_row T h64 hx rb22 (by decide) fun a23 G23 us23 fa23 sa23 rb23 hc23 => ?_
    have hx := hx.same sa23
    have hy := hy.same sa23
    have hz := hz.same sa23
    have rb1 := rb1.same sa23
    have rb2 := rb2.same sa23
    have rb3 := rb3.same sa23
    have rb4 := rb4.same sa23
    have rb6 := rb6.same sa23
    have rb7 := rb7.same sa23
    have rb8 := rb8.same sa23
    have rb9 := rb9.same sa23
    have rb11 := rb11.same sa23
    have rb12 := rb12.same sa23
    have rb13 := rb13.same sa23
    have rb14 := rb14.same sa23
    have rb15 := rb15.same sa23
    have rb17 := rb17.same sa23
    have rb18 := rb18.same sa23
    have rb19 := rb19.same sa23
    have rb20 := rb20.same sa23
    have rb22 := rb22.same sa23
    have S := S.trans sa23
    refine ⟨_, rfl, _, rfl, op_row T h64 hx hy (by decide) fun a24 G24 us24 fa24 sa24 rb24 hc24 => ?_⟩
    have hx := hx.same sa24
    have hy := hy.same sa24
    have hz := hz.same sa24
    have rb1 := rb1.same sa24
    have rb2 := rb2.same sa24
    have rb3 := rb3.same sa24
    have rb4 := rb4.same sa24
    have rb6 := rb6.same sa24
    have rb7 := rb7.same sa24
    have rb8 := rb8.same sa24
    have rb9 := rb9.same sa24
    have rb11 := rb11.same sa24
    have rb12 := rb12.same sa24
    have rb13 := rb13.same sa24
    have rb14 := rb14.same sa24
    have rb15 := rb15.same sa24
    have rb17 := rb17.same sa24
    have rb18 := rb18.same sa24
    have rb19 := rb19.same sa24
    have rb20 := rb20.same sa24
    have rb22 := rb22.same sa24
    have rb23 := rb23.same sa24
    have S := S.trans sa24
    refine ⟨_, rfl, _, rfl, op_row T h64 hx hz (by decide) fun a25 G25 us25 fa25 sa25 rb25 hc25 => ?_⟩
    have hx := hx.same sa25
    have hy := hy.same sa25
    have hz := hz.same sa25
    have rb1 := rb1.same sa25
    have rb2 := rb2.same sa25
    have rb3 := rb3.same sa25
    have rb4 := rb4.same sa25
    have rb6 := rb6.same sa25
    have rb7 := rb7.same sa25
    have rb8 := rb8.same sa25
    have rb9 := rb9.same sa25
    have rb11 := rb11.same sa25
    have rb12 := rb12.same sa25
    have rb13 := rb13.same sa25
    have rb14 := rb14.same sa25
    have rb15 := rb15.same sa25
    have rb17 := rb17.same sa25
    have rb18 := rb18.same sa25
    have rb19 := rb19.same sa25
    have rb20 := rb20.same sa25
    have rb22 := rb22.same sa25
    have rb23 := rb23.same sa25
    have rb24 := rb24.same sa25
    have S := S.trans sa25
    refine op_row T h64 rb24 rb25 (by decide) fun a26 G26 us26 fa26 sa26 rb26 hc26 => ?_
    have hx := hx.same sa26
    have hy := hy.same sa26
    have hz := hz.same sa26
    have rb1 := rb1.same sa26
    have rb2 := rb2.same sa26
    have rb3 := rb3.same sa26
    have rb4 := rb4.same sa26
    have rb6 := rb6.same sa26
    have rb7 := rb7.same sa26
    have rb8 := rb8.same sa26
    have rb9 := rb9.same sa26
    have rb11 := rb11.same sa26
    have rb12 := rb12.same sa26
    have rb13 := rb13.same sa26
    have rb14 := rb14.same sa26
    have rb15 := rb15.same sa26
    have rb17 := rb17.same sa26
    have rb18 := rb18.same sa26
    have rb19 := rb19.same sa26
    have rb20 := rb20.same sa26
    have rb22 := rb22.same sa26
    have rb23 := rb23.same sa26
    have rb24 := rb24.same sa26
    have rb25 := rb25.same sa26
    have S := S.trans sa26
    refine eq_row T rb23 rb26 (by decide) (by decide) fun G27 sa27 => ?_
    have e27 : rk us23 = rk us26 := (asc_one rb23.asc rb26.asc).mpr fun r => by
      rw [hc23 r, hc22 r, hc26 r, hc24 r, hc25 r]
      simp only [opN_add, opN_or, opN_and, opN_sub, opN_xor]
      generalize cnt r ps = m
      generalize cnt r qs = n
      try generalize cnt r zs = o
      omega
    rw [decide_eq_true e27]
    have hx := hx.same sa27
    have hy := hy.same sa27
    have hz := hz.same sa27
    have rb1 := rb1.same sa27
    have rb2 := rb2.same sa27
    have rb3 := rb3.same sa27
    have rb4 := rb4.same sa27
    have rb6 := rb6.same sa27
    have rb7 := rb7.same sa27
    have rb8 := rb8.same sa27
    have rb9 := rb9.same sa27
    have rb11 := rb11.same sa27
    have rb12 := rb12.same sa27
    have rb13 := rb13.same sa27
    have rb14 := rb14.same sa27
    have rb15 := rb15.same sa27
    have rb17 := rb17.same sa27
    have rb18 := rb18.same sa27
    have rb19 := rb19.same sa27
    have rb20 := rb20.same sa27
    have rb22 := rb22.same sa27
    have rb23 := rb23.same sa27
    have rb24 := rb24.same sa27
    have rb25 := rb25.same sa27
    have rb26 := rb26.same sa27
    have S := S.trans sa27
    refine ⟨_, rfl, iteF ?_⟩
    refine ⟨_, rfl, _, rfl, op_row T h64 hx hy (by decide) fun a28 G28 us28 fa28 sa28 rb28 hc28 => ?_⟩
    have hx := hx.same sa28
    have hy := hy.same sa28
    have hz := hz.same sa28
    have rb1 := rb1.same sa28
    have rb2 := rb2.same sa28
    have rb3 := rb3.same sa28
    have rb4 := rb4.same sa28
    have rb6 := rb6.same sa28
    have rb7 := rb7.same sa28
    have rb8 := rb8.same sa28
    have rb9 := rb9.same sa28
    have rb11 := rb11.same sa28
    have rb12 := rb12.same sa28
    have rb13 := rb13.same sa28
    have rb14 := rb14.same sa28
    have rb15 := rb15.same sa28
    have rb17 := rb17.same sa28
    have rb18 := rb18.same sa28
    have rb19 := rb19.same sa28
    have rb20 := rb20.same sa28
    have rb22 := rb22.same sa28
    have rb23 := rb23.same sa28
    have rb24 := rb24.same sa28
    have rb25 := rb25.same sa28
    have rb26 := rb26.same sa28
    have S := S.trans sa28
    refine ⟨_, rfl, op_row T h64 rb28 hz (by decide) fun a29 G29 us29 fa29 sa29 rb29 hc29 => ?_⟩
    have hx := hx.same sa29
    have hy := hy.same sa29
    have hz := hz.same sa29
    have rb1 := rb1.same sa29
    have rb2 := rb2.same sa29
    have rb3 := rb3.same sa29
    have rb4 := rb4.same sa29
    have rb6 := rb6.same sa29
    have rb7 := rb7.same sa29
    have rb8 := rb8.same sa29
    have rb9 := rb9.same sa29
    have rb11 := rb11.same sa29
    have rb12 := rb12.same sa29
    have rb13 := rb13.same sa29
    have rb14 := rb14.same sa29
    have rb15 := rb15.same sa29
    have rb17 := rb17.same sa29
    have rb18 := rb18.same sa29
    have rb19 := rb19.same sa29
    have rb20 := rb20.same sa29
    have rb22 := rb22.same sa29
    have rb23 := rb23.same sa29
    have rb24 := rb24.same sa29
    have rb25 := rb25.same sa29
    have rb26 := rb26.same sa29
    have rb28 := rb28.same sa29
    have S := S.trans sa29
    refine ⟨_, rfl, _, rfl, _, rfl, op_row T h64 hy hz (by decide) fun a30 G30 us30 fa30 sa30 rb30 hc30 => ?_⟩
    have hx := hx.same sa30
    have hy := hy.same sa30
    have hz := hz.same sa30
    have rb1 := rb1.same sa30
    have rb2 := rb2.same sa30
    have rb3 := rb3.same sa30
    have rb4 := rb4.same sa30
    have rb6 := rb6.same sa30
    have rb7 := rb7.same sa30
    have rb8 := rb8.same sa30
    have rb9 := rb9.same sa30
    have rb11 := rb11.same sa30
    have rb12 := rb12.same sa30
    have rb13 := rb13.same sa30
    have rb14 := rb14.same sa30
    have rb15 := rb15.same sa30
    have rb17 := rb17.same sa30
    have rb18 := rb18.same sa30
    have rb19 := rb19.same sa30
    have rb20 := rb20.same sa30
    have rb22 := rb22.same sa30
    have rb23 := rb23.same sa30
    have rb24 := rb24.same sa30
    have rb25 := rb25.same sa30
    have rb26 := rb26.same sa30
    have rb28 := rb28.same sa30
    have rb29 := rb29.same sa30
    have S := S.trans sa30
    refine op_row T h64 hx rb30 (by decide) fun a31 G31 us31 fa31 sa31 rb31 hc31 => ?_
    have hx := hx.same sa31
    have hy := hy.same sa31
    have hz := hz.same sa31
    have rb1 := rb1.same sa31
    have rb2 := rb2.same sa31
    have rb3 := rb3.same sa31
    have rb4 := rb4.same sa31
    have rb6 := rb6.same sa31
    have rb7 := rb7.same sa31
    have rb8 := rb8.same sa31
    have rb9 := rb9.same sa31
    have rb11 := rb11.same sa31
    have rb12 := rb12.same sa31
    have rb13 := rb13.same sa31
    have rb14 := rb14.same sa31
    have rb15 := rb15.same sa31
    have rb17 := rb17.same sa31
    have rb18 := rb18.same sa31
    have rb19 := rb19.same sa31
    have rb20 := rb20.same sa31
    have rb22 := rb22.same sa31
    have rb23 := rb23.same sa31
    have rb24 := rb24.same sa31
    have rb25 := rb25.same sa31
    have rb26 := rb26.same sa31
    have rb28 := rb28.same sa31
    have rb29 := rb29.same sa31
    have rb30 := rb30.same sa31
    have S := S.trans sa31
    refine eq_row T rb29 rb31 (by decide) (by decide) fun G32 sa32 => ?_
    have e32 : rk us29 = rk us31 := (asc_one rb29.asc rb31.asc).mpr fun r => by
      rw [hc29 r, hc28 r, hc31 r, hc30 r]
      simp only [opN_add, opN_or, opN_and, opN_sub, opN_xor]
      generalize cnt r ps = m
      generalize cnt r qs = n
      try generalize cnt r zs = o
      omega
    rw [decide_eq_true e32]
    have hx := hx.same sa32
    have hy := hy.same sa32
    have hz := hz.same sa32
    have rb1 := rb1.same sa32
    have rb2 := rb2.same sa32
    have rb3 := rb3.same sa32
    have rb4 := rb4.same sa32
    have rb6 := rb6.same sa32
    have rb7 := rb7.same sa32
    have rb8 := rb8.same sa32
    have rb9 := rb9.same sa32
    have rb11 := rb11.same sa32
    have rb12 := rb12.same sa32
    have rb13 := rb13.same sa32
    have rb14 := rb14.same sa32
    have rb15 := rb15.same sa32
    have rb17 := rb17.same sa32
    have rb18 := rb18.same sa32
    have rb19 := rb19.same sa32
    have rb20 := rb20.same sa32
    have rb22 := rb22.same sa32
    have rb23 := rb23.same sa32
    have rb24 := rb24.same sa32
    have rb25 := rb25.same sa32
    have rb26 := rb26.same sa32
    have rb28 := rb28.same sa32
    have rb29 := rb29.same sa32
    have rb30 := rb30.same sa32
    have rb31 := rb31.same sa32
    have S := S.trans sa32
    refine ⟨_, rfl, iteF ?_⟩
    obtain ⟨dx, tx, ix⟩ := hx.ins
    obtain ⟨xs, x1, x2, x3⟩ := hx.els (by decide)
    obtain ⟨ys, y1, y2, y3⟩ := hy.els (by decide)
    refine ⟨_, rfl, x, dx, _, rfl, ix, rfl, _, rfl, x, y, xs, ys, ps, qs, rfl, x1, x2, x3, hx.asc, y1, y2, y3, hy.asc, fun G90 s90 => ?_⟩
    refine ⟨_, rfl, _, rfl, ite2 (fun _ => ?_) (fun hb => ?_)⟩
    · exact k _ (S.trans s90)
    · have hin : inB ps qs = true := by
        cases e : inB ps qs with
        | true => rfl
        | false =>
          rw [e] at hb
          exact absurd rfl hb
      have wi := inB_iff.mp hin
      have hx := hx.same s90
      have hy := hy.same s90
      have hz := hz.same s90
      have S := S.trans s90
      refine ⟨_, rfl, _, rfl, op_row T h64 hx hz (by decide) fun a41 G41 us41 fa41 sa41 rb41 hc41 => ?_⟩
      have hx := hx.same sa41
      have hy := hy.same sa41
      have hz := hz.same sa41
      have S := S.trans sa41
      obtain ⟨d41, t41, i41⟩ := rb41.ins
      refine ⟨a41, d41, _, rfl, i41, rfl, ?_⟩
      refine ⟨_, rfl, _, rfl, op_row T h64 hy hz (by decide) fun a42 G42 us42 fa42 sa42 rb42 hc42 => ?_⟩
      have hx := hx.same sa42
      have hy := hy.same sa42
      have hz := hz.same sa42
      have rb41 := rb41.same sa42
      have S := S.trans sa42
      obtain ⟨p41, q41, r41, w41⟩ := rb41.els (by decide)
      obtain ⟨p42, q42, r42, w42⟩ := rb42.els (by decide)
      refine ⟨a41, a42, p41, p42, us41, us42, rfl, q41, r41, w41, rb41.asc, q42, r42, w42, rb42.asc, fun G941 s941 => ?_⟩
      have hx := hx.same s941
      have hy := hy.same s941
      have hz := hz.same s941
      have S := S.trans s941
      have e41 : inB us41 us42 = true := inB_iff.mpr fun r => by
        have := wi r
        rw [hc41 r, hc42 r]
        simp only [opN_and, opN_sub]
        omega
      rw [e41]
      refine ⟨_, rfl, iteT ?_⟩
      refine ⟨_, rfl, _, rfl, op_row T h64 hx hz (by decide) fun a51 G51 us51 fa51 sa51 rb51 hc51 => ?_⟩
      have hx := hx.same sa51
      have hy := hy.same sa51
      have hz := hz.same sa51
      have S := S.trans sa51
      obtain ⟨d51, t51, i51⟩ := rb51.ins
      refine ⟨a51, d51, _, rfl, i51, rfl, ?_⟩
      refine ⟨_, rfl, _, rfl, op_row T h64 hy hz (by decide) fun a52 G52 us52 fa52 sa52 rb52 hc52 => ?_⟩
      have hx := hx.same sa52
      have hy := hy.same sa52
      have hz := hz.same sa52
      have rb51 := rb51.same sa52
      have S := S.trans sa52
      obtain ⟨p51, q51, r51, w51⟩ := rb51.els (by decide)
      obtain ⟨p52, q52, r52, w52⟩ := rb52.els (by decide)
      refine ⟨a51, a52, p51, p52, us51, us52, rfl, q51, r51, w51, rb51.asc, q52, r52, w52, rb52.asc, fun G951 s951 => ?_⟩
      have hx := hx.same s951
      have hy := hy.same s951
      have hz := hz.same s951
      have S := S.trans s951
      have e51 : inB us51 us52 = true := inB_iff.mpr fun r => by
        have := wi r
        rw [hc51 r, hc52 r]
        simp only [opN_and, opN_sub]
        omega
      rw [e51]
      exact k _ S
end
end K08
namespace K08
open PySem PySem.Spec PyProof.Rows L2 He Tw
abbrev s_pright : Stmt := topS 37
abbrev N_pright : List Str := ["_law_one", "_law_other"]
theorem sc_pright : FnScope N_pright ["_law_one", "_law_other"] (defScope s_pright) := ⟨rfl, rfl, rfl, by decide +kernel, rfl, by decide +kernel, by decide +kernel⟩
def spPRight (K : Fg) : Sp := fun vs H Q _ => ∃ (x y : Addr) (rs : List Int) (ps qs : List (Int × Str)), vs = [.ref x, .ref y] ∧ rs.length < 64 ∧ RowB K rs 48 H x ps ∧ RowB K rs 48 H y qs ∧ ∀ H', Same H H' → Q (.bl true) H'
section
variable {P : Program} {w : World} {K : Fg} {mg : Str → Option Value} {base : Heap} {fd : Nat → FuncData}
theorem ok_pright {fdF fdE fdK fdW fdL : FuncData} (D : DefsK K fd) (F : FnP K "_law_pairs_right" "_law_pairs_right" s_pright (ga K "_law_pairs_right") fdF) (FE : FnP K "__eq__" "Row.__eq__" s_eqr (ma K (ga K "Row") "__eq__") fdE) (FK : FnP K "ranks" "Row.ranks" s_rks (ma K (ga K "Row") "ranks") fdK) (FL : FnP K "__len__" "Row.__len__" s_len (ma K (ga K "Row") "__len__") fdL)
    (GW : FnOk P w K mg base CX0 9 (ma K (ga K "Row") "within") fdW ["self", "other"] (spWithin K)) (bW : Binds K fdW ["self", "other"] []) (T : Txt K mg) : FnG P w K mg base CX0 12 (ga K "_law_pairs_right") fdF ["_law_one", "_law_other"] (spPRight K) := by
  have zrepr : mg "repr" = none := T.bl (by decide +kernel)
  have zlen : mg "len" = none := T.bl (by decide +kernel)
  have GE : FnOk P w K mg base CX0 2 _ fdE ["self", "other"] (spEqB K) := ok_eqb FE FK T
  have bE : Binds K fdE ["self", "other"] [] := FE.bindsN fun _ _ _ _ _ _ us hl => match us, hl with | [_, _], _ => rfl
  have GL : FnOk P w K mg base CX0 1 _ fdL ["self"] (spLen K) := ok_len FL T
  have bL : Binds K fdL ["self"] [] := FL.bindsN fun _ _ _ _ _ _ us hl => match us, hl with | [_], _ => rfl
  have mE := T.mtR2 (m := "__eq__") (by decide +kernel)
  have mW := T.mtR2 (m := "within") (by decide +kernel)
  have mL := T.own (m := "__len__") (by decide +kernel)
  refine F.okG sc_pright (fun vs H Q E h => ?_) (fun cdv A outer s H vs Q E hr hg h => ?_)
  · obtain ⟨x, y, rs, ps, qs, rfl, _⟩ := h
    rfl
  · obtain ⟨x, y, rs, ps, qs, rfl, h64, hx, hy, k⟩ := h
    have hu := room70 hr
    refine ⟨_, PSs.nox (pss_cons (ps_if (PW.pt (pw_or (pt_not (pt_cmpR (op_eqOwn (E := E0) mE.at_ mE.fn GE (hr.mono (by decide)) bE pass0) (pe_op (opo_add (E := E0) D T (hr.mono (by decide)) passL) (pe_op (opo_or (E := E0) D T (hr.mono (by decide)) passL) (pv 0) (pv 1)) (pe_op (opo_and (E := E0) D T (hr.mono (by decide)) passL) (pv 0) (pv 1))) (pe_op (opo_add (E := E0) D T (hr.mono (by decide)) passL) (pv 0) (pv 1)) (nomark _))) (pw_or1 (pt_not (pt_cmpR (op_eqOwn (E := E0) mE.at_ mE.fn GE (hr.mono (by decide)) bE pass0) (pe_op (opo_add (E := E0) D T (hr.mono (by decide)) passL) (pe_op (opo_sub (E := E0) D T (hr.mono (by decide)) passL) (pv 0) (pv 1)) (pe_op (opo_and (E := E0) D T (hr.mono (by decide)) passL) (pv 0) (pv 1))) (pv 0) (nomark _)))))) (pss_one (ps_ret pe_bl)) pss_nil)
    (pss_cons (ps_if (PW.pt (pw_or (pt_not (pt_cmpR (op_eqOwn (E := E0) mE.at_ mE.fn GE (hr.mono (by decide)) bE pass0) (pe_op (opo_xor (E := E0) D T (hr.mono (by decide)) passL) (pv 0) (pv 1)) (pe_op (opo_add (E := E0) D T (hr.mono (by decide)) passL) (pe_op (opo_sub (E := E0) D T (hr.mono (by decide)) passL) (pv 0) (pv 1)) (pe_op (opo_sub (E := E0) D T (hr.mono (by decide)) passL) (pv 1) (pv 0))) (nomark _))) (pw_or1 (pt_not (pt_cmpR (op_eqOwn (E := E0) mE.at_ mE.fn GE (hr.mono (by decide)) bE pass0) (pe_op (opo_xor (E := E0) D T (hr.mono (by decide)) passL) (pv 0) (pv 1)) (pe_op (opo_sub (E := E0) D T (hr.mono (by decide)) passL) (pe_op (opo_or (E := E0) D T (hr.mono (by decide)) passL) (pv 0) (pv 1)) (pe_op (opo_and (E := E0) D T (hr.mono (by decide)) passL) (pv 0) (pv 1))) (nomark _)))))) (pss_one (ps_ret pe_bl)) pss_nil)
    (pss_cons (ps_if (PW.pt (pw_or (pt_not (pt_cmpR (op_eqOwn (E := E0) mE.at_ mE.fn GE (hr.mono (by decide)) bE pass0) (pe_op (opo_sub (E := E0) D T (hr.mono (by decide)) passL) (pv 0) (pv 1)) (pe_op (opo_sub (E := E0) D T (hr.mono (by decide)) passL) (pv 0) (pe_op (opo_and (E := E0) D T (hr.mono (by decide)) passL) (pv 0) (pv 1))) (nomark _))) (pw_or1 (pt_not (pt_cmpR (op_eqOwn (E := E0) mE.at_ mE.fn GE (hr.mono (by decide)) bE pass0) (pe_op (opo_or (E := E0) D T (hr.mono (by decide)) passL) (pv 0) (pv 1)) (pe_op (opo_add (E := E0) D T (hr.mono (by decide)) passL) (pv 0) (pe_op (opo_sub (E := E0) D T (hr.mono (by decide)) passL) (pv 1) (pv 0))) (nomark _)))))) (pss_one (ps_ret pe_bl)) pss_nil)
    (pss_cons (ps_if (PW.pt (pw_or (pt_not (pt_val (pe_meth (E := E0) (pe_op (opo_and (E := E0) D T (hr.mono (by decide)) passL) (pv 0) (pv 1)) T.clsR mW GW (hr.mono (by decide)) bW .nil pass0 (pa_cons (pv 0) pa_nil)))) (pw_or (pt_not (pt_val (pe_meth (E := E0) (pv 0) T.clsR mW GW (hr.mono (by decide)) bW .nil pass0 (pa_cons (pe_op (opo_or (E := E0) D T (hr.mono (by decide)) passL) (pv 0) (pv 1)) pa_nil)))) (pw_or1 (pt_not (pt_val (pe_meth (E := E0) (pe_op (opo_or (E := E0) D T (hr.mono (by decide)) passL) (pv 0) (pv 1)) T.clsR mW GW (hr.mono (by decide)) bW .nil pass0 (pa_cons (pe_op (opo_add (E := E0) D T (hr.mono (by decide)) passL) (pv 0) (pv 1)) pa_nil)))))))) (pss_one (ps_ret pe_bl)) pss_nil)
    (pss_one (ps_ret (pe_and (pe_cmpR op_eq (pe_callB (call_reprV hg hu) (by rfl) zrepr Tw.boot_repr (pa_cons (pe_meth (E := E0) (pv 0) T.clsR mW GW (hr.mono (by decide)) bW .nil pass0 (pa_cons (pv 1) pa_nil)) pa_nil)) (pe_callB (call_reprV hg hu) (by rfl) zrepr Tw.boot_repr (pa_cons (pe_cmpR op_eq (pe_callB (call_lenOwn (E := E0) mL.at_ mL.fn GL (hr.mono (by decide)) bL pass0) (by rfl) zlen (by decide +kernel) (pa_cons (pe_op (opo_sub (E := E0) D T (hr.mono (by decide)) passL) (pv 0) (pv 1)) pa_nil)) pe_int (nomark _)) pa_nil)) (nomark _)) (pe_one (pe_cmpR op_eq (pe_meth (E := E0) (pv 0) T.clsR mW GW (hr.mono (by decide)) bW .nil pass0 (pa_cons (pv 1) pa_nil)) (pe_cmpR (op_eqOwn (E := E0) mE.at_ mE.fn GE (hr.mono (by decide)) bE pass0) (pe_op (opo_or (E := E0) D T (hr.mono (by decide)) passL) (pv 0) (pv 1)) (pv 1) (nomark _)) (nomark _)))))))))), ?_⟩
    have S : Same H H := fun _ _ e => e
    refine ⟨_, rfl, _, rfl, op_row T h64 hx hy (by decide) fun a1 G1 us1 fa1 sa1 rb1 hc1 => ?_⟩
    have hx := hx.same sa1
    have hy := hy.same sa1
    have S := S.trans sa1
    refine ⟨_, rfl, _, rfl, op_row T h64 hx hy (by decide) fun a2 G2 us2 fa2 sa2 rb2 hc2 => ?_⟩
    have hx := hx.same sa2
    have hy := hy.same sa2
    have rb1 := rb1.same sa2
    have S := S.trans sa2
    refine op_row T h64 rb1 rb2 (by decide) fun a3 G3 us3 fa3 sa3 rb3 hc3 => ?_
    have hx := hx.same sa3
    have hy := hy.same sa3
    have rb1 := rb1.same sa3
    have rb2 := rb2.same sa3
    have S := S.trans sa3
    refine ⟨_, rfl, _, rfl, op_row T h64 hx hy (by decide) fun a4 G4 us4 fa4 sa4 rb4 hc4 => ?_⟩
    have hx := hx.same sa4
    have hy := hy.same sa4
    have rb1 := rb1.same sa4
    have rb2 := rb2.same sa4
    have rb3 := rb3.same sa4
    have S := S.trans sa4
    refine eq_row T rb3 rb4 (by decide) (by decide) fun G5 sa5 => ?_
    have e5 : rk us3 = rk us4 := (asc_one rb3.asc rb4.asc).mpr fun r => by
      rw [hc3 r, hc1 r, hc2 r, hc4 r]
      simp only [opN_add, opN_or, opN_and, opN_sub, opN_xor]
      all_goals generalize cnt r ps = m
      all_goals generalize cnt r qs = n
      all_goals try generalize cnt r zs = o
      all_goals omega
    rw [decide_eq_true e5]
    have hx := hx.same sa5
    have hy := hy.same sa5
    have rb1 := rb1.same sa5
    have rb2 := rb2.same sa5
    have rb3 := rb3.same sa5
    have rb4 := rb4.same sa5
    have S := S.trans sa5
    refine ⟨_, rfl, iteF ?_⟩
    refine ⟨_, rfl, _, rfl, op_row T h64 hx hy (by decide) fun a6 G6 us6 fa6 sa6 rb6 hc6 => ?_⟩
    have hx := hx.same sa6
    have hy := hy.same sa6
    have rb1 := rb1.same sa6
    have rb2 := rb2.same sa6
    have rb3 := rb3.same sa6
    have rb4 := rb4.same sa6
    have S := S.trans sa6
    refine ⟨_, rfl, _, rfl, op_row T h64 hx hy (by decide) fun a7 G7 us7 fa7 sa7 rb7 hc7 => ?_⟩
    have hx := hx.same sa7
    have hy := hy.same sa7
    have rb1 := rb1.same sa7
    have rb2 := rb2.same sa7
    have rb3 := rb3.same sa7
    have rb4 := rb4.same sa7
    have rb6 := rb6.same sa7
    have S := S.trans sa7
    refine op_row T h64 rb6 rb7 (by decide) fun a8 G8 us8 fa8 sa8 rb8 hc8 => ?_
    have hx := hx.same sa8
    have hy := hy.same sa8
    have rb1 := rb1.same sa8
    have rb2 := rb2.same sa8
    have rb3 := rb3.same sa8
    have rb4 := rb4.same sa8
    have rb6 := rb6.same sa8
    have rb7 := rb7.same sa8
    have S := S.trans sa8
    refine ⟨_, rfl, eq_row T rb8 hx (by decide) (by decide) fun G9 sa9 => ?_⟩
    have e9 : rk us8 = rk ps := (asc_one rb8.asc hx.asc).mpr fun r => by
      rw [hc8 r, hc6 r, hc7 r]
      simp only [opN_add, opN_or, opN_and, opN_sub, opN_xor]
      all_goals generalize cnt r ps = m
      all_goals generalize cnt r qs = n
      all_goals try generalize cnt r zs = o
      all_goals omega
    rw [decide_eq_true e9]
    have hx := hx.same sa9
    have hy := hy.same sa9
    have rb1 := rb1.same sa9
    have rb2 := rb2.same sa9
    have rb3 := rb3.same sa9
    have rb4 := rb4.same sa9
    have rb6 := rb6.same sa9
    have rb7 := rb7.same sa9
    have rb8 := rb8.same sa9
    have S := S.trans sa9
    refine ⟨_, rfl, iteF ?_⟩
    refine ⟨_, rfl, _, rfl, op_row T h64 hx hy (by decide) fun a10 G10 us10 fa10 sa10 rb10 hc10 => ?_⟩
    have hx := hx.same sa10
    have hy := hy.same sa10
    have rb1 := rb1.same sa10
    have rb2 := rb2.same sa10
    have rb3 := rb3.same sa10
    have rb4 := rb4.same sa10
    have rb6 := rb6.same sa10
    have rb7 := rb7.same sa10
    have rb8 := rb8.same sa10
    have S := S.trans sa10
    refine ⟨_, rfl, _, rfl, op_row T h64 hx hy (by decide) fun a11 G11 us11 fa11 sa11 rb11 hc11 => ?_⟩
    have hx := hx.same sa11
    have hy := hy.same sa11
    have rb1 := rb1.same sa11
    have rb2 := rb2.same sa11
    have rb3 := rb3.same sa11
    have rb4 := rb4.same sa11
    have rb6 := rb6.same sa11
    have rb7 := rb7.same sa11
    have rb8 := rb8.same sa11
    have rb10 := rb10.same sa11
    have S := S.trans sa11
    refine ⟨_, rfl, _, rfl, op_row T h64 hy hx (by decide) fun a12 G12 us12 fa12 sa12 rb12 hc12 => ?_⟩
    have hx := hx.same sa12
    have hy := hy.same sa12
    have rb1 := rb1.same sa12
    have rb2 := rb2.same sa12
    have rb3 := rb3.same sa12
    have rb4 := rb4.same sa12
    have rb6 := rb6.same sa12
    have rb7 := rb7.same sa12
    have rb8 := rb8.same sa12
    have rb10 := rb10.same sa12
    have rb11 := rb11.same sa12
    have S := S.trans sa12
    refine op_row T h64 rb11 rb12 (by decide) fun a13 G13 us13 fa13 sa13 rb13 hc13 => ?_
    have hx := hx.same sa13
    have hy := hy.same sa13
    have rb1 := rb1.same sa13
    have rb2 := rb2.same sa13
    have rb3 := rb3.same sa13
    have rb4 := rb4.same sa13
    have rb6 := rb6.same sa13
    have rb7 := rb7.same sa13
    have rb8 := rb8.same sa13
    have rb10 := rb10.same sa13
    have rb11 := rb11.same sa13
    have rb12 := rb12.same sa13
    have S := S.trans sa13
    refine eq_row T rb10 rb13 (by decide) (by decide) fun G14 sa14 => ?_
    have e14 : rk us10 = rk us13 := (asc_one rb10.asc rb13.asc).mpr fun r => by
      rw [hc10 r, hc13 r, hc11 r, hc12 r]
      simp only [opN_add, opN_or, opN_and, opN_sub, opN_xor]
      all_goals generalize cnt r ps = m
      all_goals generalize cnt r qs = n
      all_goals try generalize cnt r zs = o
      all_goals omega
    rw [decide_eq_true e14]
    have hx := hx.same sa14
    have hy := hy.same sa14
    have rb1 := rb1.same sa14
    have rb2 := rb2.same sa14
    have rb3 := rb3.same sa14
    have rb4 := rb4.same sa14
    have rb6 := rb6.same sa14
    have rb7 := rb7.same sa14
    have rb8 := rb8.same sa14
    have rb10 := rb10.same sa14
    have rb11 := rb11.same sa14
    have rb12 := rb12.same sa14
    have rb13 := rb13.same sa14
    have S := S.trans sa14
    refine ⟨_, rfl, iteF ?_⟩
    refine ⟨_, rfl, _, rfl, op_row T h64 hx hy (by decide) fun a15 G15 us15 fa15 sa15 rb15 hc15 => ?_⟩
    have hx := hx.same sa15
    have hy := hy.same sa15
    have rb1 := rb1.same sa15
    have rb2 := rb2.same sa15
    have rb3 := rb3.same sa15
    have rb4 := rb4.same sa15
    have rb6 := rb6.same sa15
    have rb7 := rb7.same sa15
    have rb8 := rb8.same sa15
    have rb10 := rb10.same sa15
    have rb11 := rb11.same sa15
    have rb12 := rb12.same sa15
    have rb13 := rb13.same sa15
    have S := S.trans sa15
    refine ⟨_, rfl, _, rfl, op_row T h64 hx hy (by decide) fun a16 G16 us16 fa16 sa16 rb16 hc16 => ?_⟩
    have hx := hx.same sa16
    have hy := hy.same sa16
    have rb1 := rb1.same sa16
    have rb2 := rb2.same sa16
    have rb3 := rb3.same sa16
    have rb4 := rb4.same sa16
    have rb6 := rb6.same sa16
    have rb7 := rb7.same sa16
    have rb8 := rb8.same sa16
    have rb10 := rb10.same sa16
    have rb11 := rb11.same sa16
    have rb12 := rb12.same sa16
    have rb13 := rb13.same sa16
    have rb15 := rb15.same sa16
    have S := S.trans sa16
    refine ⟨_, rfl, _, rfl, op_row T h64 hx hy (by decide) fun a17 G17 us17 fa17 sa17 rb17 hc17 => ?_⟩
    have hx := hx.same sa17
    have hy := hy.same sa17
    have rb1 := rb1.same sa17
    have rb2 := rb2.same sa17
    have rb3 := rb3.same sa17
    have rb4 := rb4.same sa17
    have rb6 := rb6.same sa17
    have rb7 := rb7.same sa17
    have rb8 := rb8.same sa17
    have rb10 := rb10.same sa17
    have rb11 := rb11.same sa17
    have rb12 := rb12.same sa17
    have rb13 := rb13.same sa17
    have rb15 := rb15.same sa17
    have rb16 := rb16.same sa17
    have S := S.trans sa17
    refine op_row T h64 rb16 rb17 (by decide) fun a18 G18 us18 fa18 sa18 rb18 hc18 => ?_
    have hx := hx.same sa18
    have hy := hy.same sa18
    have rb1 := rb1.same sa18
    have rb2 := rb2.same sa18
    have rb3 := rb3.same sa18
    have rb4 := rb4.same sa18
    have rb6 := rb6.same sa18
    have rb7 := rb7.same sa18
    have rb8 := rb8.same sa18
    have rb10 := rb10.same sa18
    have rb11 := rb11.same sa18
    have rb12 := rb12.same sa18
    have rb13 := rb13.same sa18
    have rb15 := rb15.same sa18
    have rb16 := rb16.same sa18
    have rb17 := rb17.same sa18
    have S := S.trans sa18
    refine eq_row T rb15 rb18 (by decide) (by decide) fun G19 sa19 => ?_
    have e19 : rk us15 = rk us18 := (asc_one rb15.asc rb18.asc).mpr fun r => by
      rw [hc15 r, hc18 r, hc16 r, hc17 r]
      simp only [opN_add, opN_or, opN_and, opN_sub, opN_xor]
      all_goals generalize cnt r ps = m
      all_goals generalize cnt r qs = n
      all_goals try generalize cnt r zs = o
      all_goals omega
    rw [decide_eq_true e19]
    have hx := hx.same sa19
    have hy := hy.same sa19
    have rb1 := rb1.same sa19
    have rb2 := rb2.same sa19
    have rb3 := rb3.same sa19
    have rb4 := rb4.same sa19
    have rb6 := rb6.same sa19
    have rb7 := rb7.same sa19
    have rb8 := rb8.same sa19
    have rb10 := rb10.same sa19
    have rb11 := rb11.same sa19
    have rb12 := rb12.same sa19
    have rb13 := rb13.same sa19
    have rb15 := rb15.same sa19
    have rb16 := rb16.same sa19
    have rb17 := rb17.same sa19
    have rb18 := rb18.same sa19
    have S := S.trans sa19
    refine ⟨_, rfl, iteF ?_⟩
    refine ⟨_, rfl, _, rfl, op_row T h64 hx hy (by decide) fun a20 G20 us20 fa20 sa20 rb20 hc20 => ?_⟩
    have hx := hx.same sa20
    have hy := hy.same sa20
    have rb1 := rb1.same sa20
    have rb2 := rb2.same sa20
    have rb3 := rb3.same sa20
    have rb4 := rb4.same sa20
    have rb6 := rb6.same sa20
    have rb7 := rb7.same sa20
    have rb8 := rb8.same sa20
    have rb10 := rb10.same sa20
    have rb11 := rb11.same sa20
    have rb12 := rb12.same sa20
    have rb13 := rb13.same sa20
    have rb15 := rb15.same sa20
    have rb16 := rb16.same sa20
    have rb17 := rb17.same sa20
    have rb18 := rb18.same sa20
    have S := S.trans sa20
    refine ⟨_, rfl, _, rfl, _, rfl, op_row T h64 hx hy (by decide) fun a21 G21 us21 fa21 sa21 rb21 hc21 => ?_⟩
    have hx := hx.same sa21
    have hy := hy.same sa21
    have rb1 := rb1.same sa21
    have rb2 := rb2.same sa21
    have rb3 := rb3.same sa21
    have rb4 := rb4.same sa21
    have rb6 := rb6.same sa21
    have rb7 := rb7.same sa21
    have rb8 := rb8.same sa21
    have rb10 := rb10.same sa21
    have rb11 := rb11.same sa21
    have rb12 := rb12.same sa21
    have rb13 := rb13.same sa21
    have rb15 := rb15.same sa21
    have rb16 := rb16.same sa21
    have rb17 := rb17.same sa21
    have rb18 := rb18.same sa21
    have rb20 := rb20.same sa21
    have S := S.trans sa21
    refine op_row T h64 hx rb21 (by decide) fun a22 G22 us22 fa22 sa22 rb22 hc22 => ?_
    have hx := hx.same sa22
    have hy := hy.same sa22
    have rb1 := rb1.same sa22
    have rb2 := rb2.same sa22
    have rb3 := rb3.same sa22
    have rb4 := rb4.same sa22
    have rb6 := rb6.same sa22
    have rb7 := rb7.same sa22
    have rb8 := rb8.same sa22
    have rb10 := rb10.same sa22
    have rb11 := rb11.same sa22
    have rb12 := rb12.same sa22
    have rb13 := rb13.same sa22
    have rb15 := rb15.same sa22
    have rb16 := rb16.same sa22
    have rb17 := rb17.same sa22
    have rb18 := rb18.same sa22
    have rb20 := rb20.same sa22
    have rb21 := rb21.same sa22
    have S := S.trans sa22
    refine eq_row T rb20 rb22 (by decide) (by decide) fun G23 sa23 => ?_
    have e23 : rk us20 = rk us22 := (asc_one rb20.asc rb22.asc).mpr fun r => by
      rw [hc20 r, hc22 r, hc21 r]
      simp only [opN_add, opN_or, opN_and, opN_sub, opN_xor]
      all_goals generalize cnt r ps = m
      all_goals generalize cnt r qs = n
      all_goals try generalize cnt r zs = o
      all_goals omega
    rw [decide_eq_true e23]
    have hx := hx.same sa23
    have hy := hy.same sa23
    have rb1 := rb1.same sa23
    have rb2 := rb2.same sa23
    have rb3 := rb3.same sa23
    have rb4 := rb4.same sa23
    have rb6 := rb6.same sa23
    have rb7 := rb7.same sa23
    have rb8 := rb8.same sa23
    have rb10 := rb10.same sa23
    have rb11 := rb11.same sa23
    have rb12 := rb12.same sa23
    have rb13 := rb13.same sa23
    have rb15 := rb15.same sa23
    have rb16 := rb16.same sa23
    have rb17 := rb17.same sa23
    have rb18 := rb18.same sa23
    have rb20 := rb20.same sa23
    have rb21 := rb21.same sa23
    have rb22 := rb22.same sa23
    have S := S.trans sa23
    refine ⟨_, rfl, iteF ?_⟩
    refine ⟨_, rfl, _, rfl, op_row T h64 hx hy (by decide) fun a24 G24 us24 fa24 sa24 rb24 hc24 => ?_⟩
    have hx := hx.same sa24
    have hy := hy.same sa24
    have rb1 := rb1.same sa24
    have rb2 := rb2.same sa24
    have rb3 := rb3.same sa24
    have rb4 := rb4.same sa24
    have rb6 := rb6.same sa24
    have rb7 := rb7.same sa24
    have rb8 := rb8.same sa24
    have rb10 := rb10.same sa24
    have rb11 := rb11.same sa24
    have rb12 := rb12.same sa24
    have rb13 := rb13.same sa24
    have rb15 := rb15.same sa24
    have rb16 := rb16.same sa24
    have rb17 := rb17.same sa24
    have rb18 := rb18.same sa24
    have rb20 := rb20.same sa24
    have rb21 := rb21.same sa24
    have rb22 := rb22.same sa24
    have S := S.trans sa24
    refine ⟨_, rfl, _, rfl, _, rfl, op_row T h64 hy hx (by decide) fun a25 G25 us25 fa25 sa25 rb25 hc25 => ?_⟩
    have hx := hx.same sa25
    have hy := hy.same sa25
    have rb1 := rb1.same sa25
    have rb2 := rb2.same sa25
    have rb3 := rb3.same sa25
    have rb4 := rb4.same sa25
    have rb6 := rb6.same sa25
    have rb7 := rb7.same sa25
    have rb8 := rb8.same sa25
    have rb10 := rb10.same sa25
    have rb11 := rb11.same sa25
    have rb12 := rb12.same sa25
    have rb13 := rb13.same sa25
    have rb15 := rb15.same sa25
    have rb16 := rb16.same sa25
    have rb17 := rb17.same sa25
    have rb18 := rb18.same sa25
    have rb20 := rb20.same sa25
    have rb21 := rb21.same sa25
    have rb22 := rb22.same sa25
    have rb24 := rb24.same sa25
    have S := S.trans sa25
    refine op_row T h64 hx rb25 (by decide) fun a26 G26 us26 fa26 sa26 rb26 hc26 => ?_
    have hx := hx.same sa26
    have hy := hy.same sa26
    have rb1 := rb1.same sa26
    have rb2 := rb2.same sa26
    have rb3 := rb3.same sa26
    have rb4 := rb4.same sa26
    have rb6 := rb6.same sa26
    have rb7 := rb7.same sa26
    have rb8 := rb8.same sa26
    have rb10 := rb10.same sa26
    have rb11 := rb11.same sa26
    have rb12 := rb12.same sa26
    have rb13 := rb13.same sa26
    have rb15 := rb15.same sa26
    have rb16 := rb16.same sa26
    have rb17 := rb17.same sa26
    have rb18 := rb18.same sa26
    have rb20 := rb20.same sa26
    have rb21 := rb21.same sa26
    have rb22 := rb22.same sa26
    have rb24 := rb24.same sa26
    have rb25 := rb25.same sa26
    have S := S.trans sa26
    refine eq_row T rb24 rb26 (by decide) (by decide) fun G27 sa27 => ?_
    have e27 : rk us24 = rk us26 := (asc_one rb24.asc rb26.asc).mpr fun r => by
      rw [hc24 r, hc26 r, hc25 r]
      simp only [opN_add, opN_or, opN_and, opN_sub, opN_xor]
      all_goals generalize cnt r ps = m
      all_goals generalize cnt r qs = n
      all_goals try generalize cnt r zs = o
      all_goals omega
    rw [decide_eq_true e27]
    have hx := hx.same sa27
    have hy := hy.same sa27
    have rb1 := rb1.same sa27
    have rb2 := rb2.same sa27
    have rb3 := rb3.same sa27
    have rb4 := rb4.same sa27
    have rb6 := rb6.same sa27
    have rb7 := rb7.same sa27
    have rb8 := rb8.same sa27
    have rb10 := rb10.same sa27
    have rb11 := rb11.same sa27
    have rb12 := rb12.same sa27
    have rb13 := rb13.same sa27
    have rb15 := rb15.same sa27
    have rb16 := rb16.same sa27
    have rb17 := rb17.same sa27
    have rb18 := rb18.same sa27
    have rb20 := rb20.same sa27
    have rb21 := rb21.same sa27
    have rb22 := rb22.same sa27
    have rb24 := rb24.same sa27
    have rb25 := rb25.same sa27
    have rb26 := rb26.same sa27
    have S := S.trans sa27
    refine ⟨_, rfl, iteF ?_⟩
    refine ⟨_, rfl, _, rfl, op_row T h64 hx hy (by decide) fun a28 G28 us28 fa28 sa28 rb28 hc28 => ?_⟩
    have hx := hx.same sa28
    have hy := hy.same sa28
    have rb1 := rb1.same sa28
    have rb2 := rb2.same sa28
    have rb3 := rb3.same sa28
    have rb4 := rb4.same sa28
    have rb6 := rb6.same sa28
    have rb7 := rb7.same sa28
    have rb8 := rb8.same sa28
    have rb10 := rb10.same sa28
    have rb11 := rb11.same sa28
    have rb12 := rb12.same sa28
    have rb13 := rb13.same sa28
    have rb15 := rb15.same sa28
    have rb16 := rb16.same sa28
    have rb17 := rb17.same sa28
    have rb18 := rb18.same sa28
    have rb20 := rb20.same sa28
    have rb21 := rb21.same sa28
    have rb22 := rb22.same sa28
    have rb24 := rb24.same sa28
    have rb25 := rb25.same sa28
    have rb26 := rb26.same sa28
    have S := S.trans sa28
    obtain ⟨di29, ti29, ii29⟩ := rb28.ins
    refine ⟨a28, di29, _, rfl, ii29, rfl, ?_⟩
    obtain ⟨pa29, qa29, ra29, wa29⟩ := rb28.els (by decide)
    obtain ⟨pb29, qb29, rb_29, wb29⟩ := hx.els (by decide)
    refine ⟨_, rfl, a28, x, pa29, pb29, us28, ps, rfl, qa29, ra29, wa29, rb28.asc, qb29, rb_29, wb29, hx.asc, fun G29 sa29 => ?_⟩
    have e29 : inB us28 ps = true := inB_iff.mpr fun r => by
      rw [hc28 r]
      simp only [opN_add, opN_or, opN_and, opN_sub, opN_xor]
      all_goals generalize cnt r ps = m
      all_goals generalize cnt r qs = n
      all_goals omega
    rw [e29]
    have hx := hx.same sa29
    have hy := hy.same sa29
    have rb1 := rb1.same sa29
    have rb2 := rb2.same sa29
    have rb3 := rb3.same sa29
    have rb4 := rb4.same sa29
    have rb6 := rb6.same sa29
    have rb7 := rb7.same sa29
    have rb8 := rb8.same sa29
    have rb10 := rb10.same sa29
    have rb11 := rb11.same sa29
    have rb12 := rb12.same sa29
    have rb13 := rb13.same sa29
    have rb15 := rb15.same sa29
    have rb16 := rb16.same sa29
    have rb17 := rb17.same sa29
    have rb18 := rb18.same sa29
    have rb20 := rb20.same sa29
    have rb21 := rb21.same sa29
    have rb22 := rb22.same sa29
    have rb24 := rb24.same sa29
    have rb25 := rb25.same sa29
    have rb26 := rb26.same sa29
    have rb28 := rb28.same sa29
    have S := S.trans sa29
    refine ⟨_, rfl, iteF ?_⟩
    obtain ⟨di30, ti30, ii30⟩ := hx.ins
    refine ⟨_, rfl, x, di30, _, rfl, ii30, rfl, ?_⟩
    refine ⟨_, rfl, _, rfl, op_row T h64 hx hy (by decide) fun a31 G31 us31 fa31 sa31 rb31 hc31 => ?_⟩
    have hx := hx.same sa31
    have hy := hy.same sa31
    have rb1 := rb1.same sa31
    have rb2 := rb2.same sa31
    have rb3 := rb3.same sa31
    have rb4 := rb4.same sa31
    have rb6 := rb6.same sa31
    have rb7 := rb7.same sa31
    have rb8 := rb8.same sa31
    have rb10 := rb10.same sa31
    have rb11 := rb11.same sa31
    have rb12 := rb12.same sa31
    have rb13 := rb13.same sa31
    have rb15 := rb15.same sa31
    have rb16 := rb16.same sa31
    have rb17 := rb17.same sa31
    have rb18 := rb18.same sa31
    have rb20 := rb20.same sa31
    have rb21 := rb21.same sa31
    have rb22 := rb22.same sa31
    have rb24 := rb24.same sa31
    have rb25 := rb25.same sa31
    have rb26 := rb26.same sa31
    have rb28 := rb28.same sa31
    have S := S.trans sa31
    obtain ⟨pa30, qa30, ra30, wa30⟩ := hx.els (by decide)
    obtain ⟨pb30, qb30, rb_30, wb30⟩ := rb31.els (by decide)
    refine ⟨x, a31, pa30, pb30, ps, us31, rfl, qa30, ra30, wa30, hx.asc, qb30, rb_30, wb30, rb31.asc, fun G30 sa30 => ?_⟩
    have e30 : inB ps us31 = true := inB_iff.mpr fun r => by
      rw [hc31 r]
      simp only [opN_add, opN_or, opN_and, opN_sub, opN_xor]
      all_goals generalize cnt r ps = m
      all_goals generalize cnt r qs = n
      all_goals omega
    rw [e30]
    have hx := hx.same sa30
    have hy := hy.same sa30
    have rb1 := rb1.same sa30
    have rb2 := rb2.same sa30
    have rb3 := rb3.same sa30
    have rb4 := rb4.same sa30
    have rb6 := rb6.same sa30
    have rb7 := rb7.same sa30
    have rb8 := rb8.same sa30
    have rb10 := rb10.same sa30
    have rb11 := rb11.same sa30
    have rb12 := rb12.same sa30
    have rb13 := rb13.same sa30
    have rb15 := rb15.same sa30
    have rb16 := rb16.same sa30
    have rb17 := rb17.same sa30
    have rb18 := rb18.same sa30
    have rb20 := rb20.same sa30
    have rb21 := rb21.same sa30
    have rb22 := rb22.same sa30
    have rb24 := rb24.same sa30
    have rb25 := rb25.same sa30
    have rb26 := rb26.same sa30
    have rb28 := rb28.same sa30
    have rb31 := rb31.same sa30
    have S := S.trans sa30
    refine ⟨_, rfl, iteF ?_⟩
    refine ⟨_, rfl, _, rfl, op_row T h64 hx hy (by decide) fun a32 G32 us32 fa32 sa32 rb32 hc32 => ?_⟩
    have hx := hx.same sa32
    have hy := hy.same sa32
    have rb1 := rb1.same sa32
    have rb2 := rb2.same sa32
    have rb3 := rb3.same sa32
    have rb4 := rb4.same sa32
    have rb6 := rb6.same sa32
    have rb7 := rb7.same sa32
    have rb8 := rb8.same sa32
    have rb10 := rb10.same sa32
    have rb11 := rb11.same sa32
    have rb12 := rb12.same sa32
    have rb13 := rb13.same sa32
    have rb15 := rb15.same sa32
    have rb16 := rb16.same sa32
    have rb17 := rb17.same sa32
    have rb18 := rb18.same sa32
    have rb20 := rb20.same sa32
    have rb21 := rb21.same sa32
    have rb22 := rb22.same sa32
    have rb24 := rb24.same sa32
    have rb25 := rb25.same sa32
    have rb26 := rb26.same sa32
    have rb28 := rb28.same sa32
    have rb31 := rb31.same sa32
    have S := S.trans sa32
    obtain ⟨di33, ti33, ii33⟩ := rb32.ins
    refine ⟨a32, di33, _, rfl, ii33, rfl, ?_⟩
    refine ⟨_, rfl, _, rfl, op_row T h64 hx hy (by decide) fun a34 G34 us34 fa34 sa34 rb34 hc34 => ?_⟩
    have hx := hx.same sa34
    have hy := hy.same sa34
    have rb1 := rb1.same sa34
    have rb2 := rb2.same sa34
    have rb3 := rb3.same sa34
    have rb4 := rb4.same sa34
    have rb6 := rb6.same sa34
    have rb7 := rb7.same sa34
    have rb8 := rb8.same sa34
    have rb10 := rb10.same sa34
    have rb11 := rb11.same sa34
    have rb12 := rb12.same sa34
    have rb13 := rb13.same sa34
    have rb15 := rb15.same sa34
    have rb16 := rb16.same sa34
    have rb17 := rb17.same sa34
    have rb18 := rb18.same sa34
    have rb20 := rb20.same sa34
    have rb21 := rb21.same sa34
    have rb22 := rb22.same sa34
    have rb24 := rb24.same sa34
    have rb25 := rb25.same sa34
    have rb26 := rb26.same sa34
    have rb28 := rb28.same sa34
    have rb31 := rb31.same sa34
    have rb32 := rb32.same sa34
    have S := S.trans sa34
    obtain ⟨pa33, qa33, ra33, wa33⟩ := rb32.els (by decide)
    obtain ⟨pb33, qb33, rb_33, wb33⟩ := rb34.els (by decide)
    refine ⟨a32, a34, pa33, pb33, us32, us34, rfl, qa33, ra33, wa33, rb32.asc, qb33, rb_33, wb33, rb34.asc, fun G33 sa33 => ?_⟩
    have e33 : inB us32 us34 = true := inB_iff.mpr fun r => by
      rw [hc32 r, hc34 r]
      simp only [opN_add, opN_or, opN_and, opN_sub, opN_xor]
      all_goals generalize cnt r ps = m
      all_goals generalize cnt r qs = n
      all_goals omega
    rw [e33]
    have hx := hx.same sa33
    have hy := hy.same sa33
    have rb1 := rb1.same sa33
    have rb2 := rb2.same sa33
    have rb3 := rb3.same sa33
    have rb4 := rb4.same sa33
    have rb6 := rb6.same sa33
    have rb7 := rb7.same sa33
    have rb8 := rb8.same sa33
    have rb10 := rb10.same sa33
    have rb11 := rb11.same sa33
    have rb12 := rb12.same sa33
    have rb13 := rb13.same sa33
    have rb15 := rb15.same sa33
    have rb16 := rb16.same sa33
    have rb17 := rb17.same sa33
    have rb18 := rb18.same sa33
    have rb20 := rb20.same sa33
    have rb21 := rb21.same sa33
    have rb22 := rb22.same sa33
    have rb24 := rb24.same sa33
    have rb25 := rb25.same sa33
    have rb26 := rb26.same sa33
    have rb28 := rb28.same sa33
    have rb31 := rb31.same sa33
    have rb32 := rb32.same sa33
    have rb34 := rb34.same sa33
    have S := S.trans sa33
    refine ⟨_, rfl, iteF ?_⟩
    obtain ⟨dx, tx, ix⟩ := hx.ins
    obtain ⟨xs, x1, x2, x3⟩ := hx.els (by decide)
    obtain ⟨ys, y1, y2, y3⟩ := hy.els (by decide)
    refine ⟨_, rfl, x, dx, _, rfl, ix, rfl, _, rfl, x, y, xs, ys, ps, qs, rfl, x1, x2, x3, hx.asc, y1, y2, y3, hy.asc, fun G90 s90 => ?_⟩
    have hx := hx.same s90
    have hy := hy.same s90
    have S := S.trans s90
    refine ⟨.bl (inB ps qs), .bool (inB ps qs), rfl, .bl _, rfl, by simp [PyData.depth], by simp only [cap]; decide, ?_⟩
    refine ⟨_, rfl, _, rfl, op_row T h64 hx hy (by decide) fun a91 G91 us91 f91 s91 rb91 hc91 => ?_⟩
    have hx := hx.same s91
    have hy := hy.same s91
    have S := S.trans s91
    obtain ⟨d91, t91, i91⟩ := rb91.ins
    obtain ⟨v91, q91, r91, w91⟩ := rb91.els (by decide)
    refine ⟨a91, d91, _, rfl, i91, a91, v91, rfl, q91, w91, ?_⟩
    have lv : v91.length = us91.length := Paired.length r91
    have el : decide (V.int (v91.length : Nat) = V.int 0) = inB ps qs := by
      rw [Bool.eq_iff_iff, decide_eq_true_iff, inB_iff]
      constructor
      · intro e r
        have e0 : us91.length = 0 := by
          injection e with e
          omega
        have := hc91 r
        rw [opN_sub, List.length_eq_zero_iff.mp e0, show cnt r [] = 0 from rfl] at this
        omega
      · intro h
        have e0 : us91 = [] := by
          cases e : us91 with
          | nil => rfl
          | cons q us =>
            have h1 := hc91 q.1
            have h2 := h q.1
            rw [opN_sub, e] at h1
            have h3 : 0 < cnt q.1 (q :: us) := List.length_pos_of_mem (List.mem_filter.mpr ⟨List.mem_cons_self, decide_eq_true rfl⟩)
            omega
        rw [lv, e0]
        rfl
    refine ⟨_, rfl, by omega, rfl, ?_⟩
    rw [el]
    refine ⟨.bl (inB ps qs), .bool (inB ps qs), rfl, .bl _, rfl, by simp [PyData.depth], by simp only [cap]; decide, rfl, ?_⟩
    rw [decide_eq_true rfl]
    refine ⟨_, rfl, iteT ?_⟩
    obtain ⟨dx, tx, ix⟩ := hx.ins
    obtain ⟨xs, x1, x2, x3⟩ := hx.els (by decide)
    obtain ⟨ys, y1, y2, y3⟩ := hy.els (by decide)
    refine ⟨_, rfl, x, dx, _, rfl, ix, rfl, _, rfl, x, y, xs, ys, ps, qs, rfl, x1, x2, x3, hx.asc, y1, y2, y3, hy.asc, fun G92 s92 => ?_⟩
    have hx := hx.same s92
    have hy := hy.same s92
    have S := S.trans s92
    refine ⟨_, rfl, _, rfl, op_row T h64 hx hy (by decide) fun a93 G93 us93 f93 s93 rb93 hc93 => ?_⟩
    have hx := hx.same s93
    have hy := hy.same s93
    have S := S.trans s93
    refine ⟨_, rfl, eq_row T rb93 hy (by decide) (by decide) fun G94 s94 => ?_⟩
    have ee : decide (rk us93 = rk qs) = inB ps qs := by
      rw [Bool.eq_iff_iff, decide_eq_true_iff, inB_iff, asc_one rb93.asc hy.asc]
      constructor
      · intro h r
        have := h r
        rw [hc93 r, opN_or] at this
        omega
      · intro h r
        have := h r
        rw [hc93 r, opN_or]
        omega
    rw [ee]
    refine ⟨rfl, ?_⟩
    rw [decide_eq_true rfl]
    exact k _ (S.trans s94)
end
end K08
/-! Gfz: while a generator sleeps, nothing that can't wake it changes it. A run that holds with the sleeper's continuation taken away holds with it, and leaves the sleeper as it was. -/
namespace Tw
open PySem PyProof.Rows L2 GenW

/-- a sleeper that can't be woken -/
def dumb : GenState → GenState
  | .suspended _ l c p fs cl => .suspended (fun _ => .unsupported "") l c p fs cl
  | x => x
def sleeps : GenState → Prop
  | .suspended .. => True
  | _ => False
theorem dumb_seen (x : GenState) : (dumb x).seen = x.seen := by cases x <;> rfl
theorem dumb_bare (x : GenState) : (dumb x).bare = x.bare := by cases x <;> rfl
theorem no_unsup0 {M : Model} {m : String} {Γ : Ctx} {p : Pos} {s s' : Shared} {e : End} (h : Runs M Γ p (.unsupported m) [] s e s') : False := by cases h
theorem no_unsup {M : Model} {m : String} {Γ : Ctx} {p : Pos} {fs : List Frame} {s s' : Shared} {e : End} (h : Runs M Γ p (.unsupported m) fs s e s') : False := by
  cases fs with
  | nil => exact no_unsup0 h
  | cons f fs => cases h <;> (rename_i h1; first | exact no_unsup0 h1 | (rename_i h2; exact no_unsup0 h2) | skip) <;> rename_i h1 h2 h3 <;> first | exact no_unsup0 h1 | exact no_unsup0 h2 | exact no_unsup0 h3

/-- the two tables of generators: alike, but that some sleepers of the first can't be woken; x sleeps at g -/
structure GRel (g : Nat) (x : GenState) (D G : Array GenState) : Prop where
  size : D.size = G.size
  at_ : ∀ (i : Nat) (y : GenState), D[i]? = some y → (G[i]? = some y ∧ ∀ k l c p fs cl, y = .suspended k l c p fs cl → splitAtGen fs = none) ∨ ∃ z, G[i]? = some z ∧ y = dumb z ∧ sleeps z
  here : G[g]? = some x
  hereD : D[g]? = some (dumb x)
  sl : sleeps x
section
variable {g : Nat} {x : GenState} {D G : Array GenState}
theorem GRel.alike (h : GRel g x D G) {i : Nat} {y : GenState} (e : D[i]? = some y) : ∃ z, G[i]? = some z ∧ y.seen = z.seen := by
  rcases h.at_ i y e with ⟨e1, _⟩ | ⟨z, e1, rfl, _⟩
  · exact ⟨y, e1, rfl⟩
  · exact ⟨z, e1, dumb_seen z⟩
theorem GRel.grow (h : GRel g x D G) (c : Code) : GRel g x (D.push (.fresh c)) (G.push (.fresh c)) where
  size := by rw [Array.size_push, Array.size_push, h.size]
  at_ := fun i y e => by
    rw [Array.getElem?_push] at e
    rw [Array.getElem?_push, ← h.size]
    split at e
    · rename_i hi
      cases e
      rw [if_pos hi]
      exact .inl ⟨rfl, fun k l c p fs cl z => by cases z⟩
    · rename_i hi
      rw [if_neg hi]
      exact h.at_ i y e
  here := by
    have := (Array.getElem?_eq_some_iff.mp h.here).1
    rw [Array.getElem?_push, if_neg (by omega)]; exact h.here
  hereD := by
    have := (Array.getElem?_eq_some_iff.mp h.hereD).1
    rw [Array.getElem?_push, if_neg (by omega)]; exact h.hereD
  sl := h.sl
theorem GRel.set (h : GRel g x D G) {j : Nat} {y : GenState} (hj : j ≠ g) (hy : ∀ k l c p fs cl, y = .suspended k l c p fs cl → splitAtGen fs = none) : GRel g x (D.setIfInBounds j y) (G.setIfInBounds j y) where
  size := by rw [Array.size_setIfInBounds, Array.size_setIfInBounds, h.size]
  at_ := fun i z e => by
    by_cases hi : i = j
    · subst hi
      have hlt : i < D.size := by
        have := (Array.getElem?_eq_some_iff.mp e).1
        rw [Array.size_setIfInBounds] at this
        exact this
      rw [Array.getElem?_setIfInBounds_self_of_lt hlt] at e
      cases e
      exact .inl ⟨Array.getElem?_setIfInBounds_self_of_lt (by rw [← h.size]; exact hlt), hy⟩
    · rw [Array.getElem?_setIfInBounds_ne (Ne.symm hi)] at e ⊢
      exact h.at_ i z e
  here := by rw [Array.getElem?_setIfInBounds_ne hj]; exact h.here
  hereD := by rw [Array.getElem?_setIfInBounds_ne hj]; exact h.hereD
  sl := h.sl
theorem GRel.atFresh (h : GRel g x D G) {i : Nat} {c : Code} (e : D[i]? = some (.fresh c)) : G[i]? = some (.fresh c) ∧ i ≠ g := by
  constructor
  · rcases h.at_ i _ e with ⟨e1, _⟩ | ⟨z, e1, ez, hz⟩
    · exact e1
    · cases z with
      | suspended k l c p fs cl => cases ez
      | _ => exact hz.elim
  · rintro rfl
    have := h.hereD
    rw [e] at this
    have hs := h.sl
    cases x with
    | suspended k l c p fs cl => cases this
    | _ => exact hs.elim
theorem GRel.plain (h : GRel g x D G) {i : Nat} {y : GenState} (e : D[i]? = some y) (hy : y = .running ∨ y = .finished) : G[i]? = some y := by
  rcases h.at_ i _ e with ⟨e1, _⟩ | ⟨z, e1, ez, hz⟩
  · exact e1
  · cases z with
    | suspended k l c p fs cl => rcases hy with rfl | rfl <;> cases ez
    | _ => exact hz.elim
theorem GRel.bare (h : GRel g x D G) (b : AllBare D) : AllBare G := fun y hy => by
  obtain ⟨i, hi, e⟩ := Array.mem_iff_getElem.mp hy
  have e1 : G[i]? = some y := by rw [Array.getElem?_eq_getElem hi, e]
  have hd : i < D.size := by rw [h.size]; exact hi
  have e2 : D[i]? = some D[i] := Array.getElem?_eq_getElem hd
  have hb := b _ (Array.getElem_mem hd)
  rcases h.at_ i _ e2 with ⟨e3, _⟩ | ⟨z, e3, ez, _⟩
  · rw [e1] at e3; cases e3; exact hb
  · rw [e1] at e3; cases e3
    rw [ez, dumb_bare] at hb
    exact hb
end
theorem GRel.wake {M : Model} {g : Nat} {x : GenState} {D G : Array GenState} (h : GRel g x D G) {i : Nat} {k₀ : Resume → Sem PySem.Fin} {l₀ : List Value} {c₀ : Code} {p₀ : Pos} {fs : List Frame} {cl : Bool} {Γ : Ctx} {p : Pos} {r : Resume} {s s' : Shared} {e : End}
    (e0 : D[i]? = some (.suspended k₀ l₀ c₀ p₀ fs cl)) (hr : Runs M Γ p (k₀ r) fs s e s') : i ≠ g ∧ G[i]? = some (.suspended k₀ l₀ c₀ p₀ fs cl) ∧ splitAtGen fs = none := by
  refine ⟨?_, ?_⟩
  · rintro rfl
    have := h.hereD
    rw [e0] at this
    have hs := h.sl
    cases x with
    | suspended k l c p fs cl =>
      simp only [dumb, Option.some.injEq, GenState.suspended.injEq] at this
      obtain ⟨rfl, _⟩ := this
      exact no_unsup hr
    | _ => exact hs.elim
  · rcases h.at_ _ _ e0 with ⟨e', ho⟩ | ⟨z, e', ez, hz⟩
    · exact ⟨e', ho _ _ _ _ _ _ rfl⟩
    · cases z with
      | suspended k l c p fs cl =>
        simp only [dumb, GenState.suspended.injEq] at ez
        obtain ⟨rfl, _⟩ := ez
        exact (no_unsup hr).elim
      | _ => exact hz.elim
/-- what a run ends with is good: a sleeper's frames are its own -/
def EndOk : End → Prop
  | .susp _ _ _ _ _ _ fs => splitAtGen fs = none
  | .ret _ => True
theorem split_append : ∀ {a b : List Frame}, splitAtGen a = none → splitAtGen b = none → splitAtGen (a ++ b) = none
  | [], b, _, h => h
  | .ret k h g l c p kp :: a, b, ha, hb => by
    have ha' : splitAtGen a = none := by
      simp only [splitAtGen, Option.map_eq_none_iff] at ha
      exact ha
    simp only [List.cons_append, splitAtGen, split_append ha' hb, Option.map_none]
  | .gen .. :: a, b, ha, hb => by simp [splitAtGen] at ha
theorem endOk_gen {e : End} (h : EndOk e) : ∀ k l c p fs cl, e.genState = .suspended k l c p fs cl → splitAtGen fs = none := by
  intro k l c p fs cl he
  cases e with
  | ret r => cases he
  | susp v g0 l0 k0 c0 p0 fs0 =>
    simp only [End.genState, GenState.suspended.injEq] at he
    obtain ⟨_, _, _, _, rfl, _⟩ := he
    exact h
/-- THE TWO RUN ALIKE -/
theorem lock {M : Model} {g : Nat} {x : GenState} {Γ : Ctx} {p : Pos} {t : Sem PySem.Fin} {fs : List Frame} {s s' : Shared} {e : End} (h : Runs M Γ p t fs s e s') :
    splitAtGen fs = none → ∀ G, GRel g x s.gens G → ∃ G', Runs M Γ p t fs { s with gens := G } e { s' with gens := G' } ∧ GRel g x s'.gens G' ∧ EndOk e := by
  induction h with
  | done => exact fun _ G r => ⟨G, .done, r, trivial⟩
  | raise => exact fun _ G r => ⟨G, .raise, r, trivial⟩
  | again q _ ih => intro hf G r; obtain ⟨G', h1, h2, h3⟩ := ih rfl G r; exact ⟨G', .again q h1, h2, h3⟩
  | rule _ ih => intro hf G r; obtain ⟨G', h1, h2, h3⟩ := ih rfl G r; exact ⟨G', .rule h1, h2, h3⟩
  | «at» _ ih => intro hf G r; obtain ⟨G', h1, h2, h3⟩ := ih rfl G r; exact ⟨G', .at h1, h2, h3⟩
  | load e _ ih => intro hf G r; obtain ⟨G', h1, h2, h3⟩ := ih rfl G r; exact ⟨G', .load e h1, h2, h3⟩
  | update e _ ih => intro hf G r; obtain ⟨G', h1, h2, h3⟩ := ih rfl G r; exact ⟨G', .update e h1, h2, h3⟩
  | loadIfAlive _ ih => intro hf G r; obtain ⟨G', h1, h2, h3⟩ := ih rfl G r; exact ⟨G', .loadIfAlive h1, h2, h3⟩
  | point _ ih => intro hf G r; obtain ⟨G', h1, h2, h3⟩ := ih rfl G r; exact ⟨G', .point h1, h2, h3⟩
  | alloc _ ih => intro hf G r; obtain ⟨G', h1, h2, h3⟩ := ih rfl G r; exact ⟨G', .alloc h1, h2, h3⟩
  | fresh _ ih => intro hf G r; obtain ⟨G', h1, h2, h3⟩ := ih rfl G r; exact ⟨G', .fresh h1, h2, h3⟩
  | ask _ ih => intro hf G r; obtain ⟨G', h1, h2, h3⟩ := ih rfl G r; exact ⟨G', .ask h1, h2, h3⟩
  | choose q _ ih => intro hf G r; obtain ⟨G', h1, h2, h3⟩ := ih rfl G r; exact ⟨G', .choose q h1, h2, h3⟩
  | os _ ih => intro hf G r; obtain ⟨G', h1, h2, h3⟩ := ih rfl G r; exact ⟨G', .os h1, h2, h3⟩
  | handled _ ih => intro hf G r; obtain ⟨G', h1, h2, h3⟩ := ih rfl G r; exact ⟨G', .handled h1, h2, h3⟩
  | genState e _ ih =>
    intro hf G r
    obtain ⟨z, ez, es⟩ := r.alike e
    obtain ⟨G', h1, h2, h3⟩ := ih rfl G r
    rw [es] at h1
    exact ⟨G', .genState ez h1, h2, h3⟩
  | stack _ ih => intro hf G r; obtain ⟨G', h1, h2, h3⟩ := ih rfl G r; exact ⟨G', .stack h1, h2, h3⟩
  | thread _ ih => intro hf G r; obtain ⟨G', h1, h2, h3⟩ := ih rfl G r; exact ⟨G', .thread h1, h2, h3⟩
  | newGen _ ih =>
    intro hf G r
    obtain ⟨G', h1, h2, h3⟩ := ih rfl (G.push _) (r.grow _)
    refine ⟨G', .newGen ?_, h2, h3⟩
    rw [← r.size]
    exact h1
  | call _ _ ih1 ih2 =>
    intro hf G r
    obtain ⟨G1, h1, h2, h3⟩ := ih1 rfl G r
    obtain ⟨G2, k1, k2, k3⟩ := ih2 rfl G1 h2
    exact ⟨G2, .call h1 k1, k2, k3⟩
  | callSusp _ ih =>
    intro hf G r
    obtain ⟨G1, h1, h2, h3⟩ := ih rfl G r
    exact ⟨G1, .callSusp h1, h2, split_append h3 rfl⟩
  | yield => exact fun _ G r => ⟨G, .yield, r, rfl⟩
  | resumeFresh e _ q _ ih1 ih2 =>
    intro hf G r
    obtain ⟨e', hne⟩ := r.atFresh e
    obtain ⟨G1, h1, h2, h3⟩ := ih1 rfl _ (r.set (y := .running) hne fun _ _ _ _ _ _ z => by cases z)
    obtain ⟨G2, k1, k2, k3⟩ := ih2 rfl _ (h2.set (y := End.genState _) hne (endOk_gen h3))
    exact ⟨G2, .resumeFresh e' h1 q k1, k2, k3⟩
  | resumeSuspended e hr q _ ih1 ih2 =>
    intro hf G r
    obtain ⟨hne, e', ho⟩ := r.wake e hr
    obtain ⟨G1, h1, h2, h3⟩ := ih1 ho _ (r.set (y := .running) hne fun _ _ _ _ _ _ z => by cases z)
    obtain ⟨G2, k1, k2, k3⟩ := ih2 rfl _ (h2.set (y := End.genState _) hne (endOk_gen h3))
    exact ⟨G2, .resumeSuspended e' h1 q k1, k2, k3⟩
  | resumeJustStarted e hv _ ih =>
    intro hf G r
    obtain ⟨G', h1, h2, h3⟩ := ih rfl G r
    exact ⟨G', .resumeJustStarted (r.atFresh e).1 hv h1, h2, h3⟩
  | resumeThrowFresh e _ ih =>
    intro hf G r
    obtain ⟨e', hne⟩ := r.atFresh e
    obtain ⟨G', h1, h2, h3⟩ := ih rfl _ (r.set (y := .finished) hne fun _ _ _ _ _ _ z => by cases z)
    exact ⟨G', .resumeThrowFresh e' h1, h2, h3⟩
  | resumeRunning e _ ih =>
    intro hf G r
    obtain ⟨G', h1, h2, h3⟩ := ih rfl G r
    exact ⟨G', .resumeRunning (r.plain e (.inl rfl)) h1, h2, h3⟩
  | resumeFinished e _ ih =>
    intro hf G r
    obtain ⟨G', h1, h2, h3⟩ := ih rfl G r
    exact ⟨G', .resumeFinished (r.plain e (.inr rfl)) h1, h2, h3⟩
  | segRet _ _ ih1 ih2 =>
    intro hf G r
    simp only [splitAtGen, Option.map_eq_none_iff] at hf
    obtain ⟨G1, h1, h2, h3⟩ := ih1 rfl G r
    obtain ⟨G2, k1, k2, k3⟩ := ih2 hf G1 h2
    exact ⟨G2, .segRet h1 k1, k2, k3⟩
  | segGen _ _ ih1 ih2 => intro hf; simp [splitAtGen] at hf
  | segSuspOut hs _ ih =>
    intro hf G r
    obtain ⟨G1, h1, h2, h3⟩ := ih rfl G r
    exact ⟨G1, .segSuspOut hs h1, h2, split_append h3 hs⟩
  | segSuspGen hs _ _ _ ih1 ih2 => intro hf; rw [hs] at hf; cases hf

section
variable {M : Model} {g : Nat} {x : GenState}
open Sem (wp)
theorem wp_lock {α : Type} {Γ : Ctx} (t : Sem α) : ∀ (Q : α → Pos → Shared → Prop) (E : Value → Pos → Shared → Prop) (p : Pos) (s : Shared) (G : Array GenState), GRel g x s.gens G → wp M Γ t Q E p s →
    wp M Γ t (fun a p' s' => ∃ D, GRel g x D s'.gens ∧ Q a p' { s' with gens := D }) (fun e p' s' => ∃ D, GRel g x D s'.gens ∧ E e p' { s' with gens := D }) p { s with gens := G } := by
  induction t with
  | pure a => intro Q E p s G r h; exact ⟨s.gens, r, h⟩
  | raise e => intro Q E p s G r h; exact ⟨s.gens, r, h⟩
  | unsupported _ => intro Q E p s G _ h; exact h
  | finish _ => intro Q E p s G _ h; exact h
  | rule _ k ih => intro Q E p s G r h; exact ih () Q E p s G r h
  | «at» p' k ih => intro Q E p s G r h; exact ih () Q E p' s G r h
  | load a _ k ih => intro Q E p s G r h; obtain ⟨o, ho, h⟩ := h; exact ⟨o, ho, ih o Q E p s G r h⟩
  | update a _ f k ih => intro Q E p s G r h; exact ⟨h.1, ih () Q E p { s with heap := s.heap.update a f } G r h.2⟩
  | loadIfAlive a k ih => intro Q E p s G r h; exact ih _ Q E p s G r h
  | point _ k ih => intro Q E p s G r h; exact ih () Q E p s G r h
  | register _ _ => intro Q E p s G _ h; exact h
  | alloc o k ih => intro Q E p s G r h; exact ih _ Q E p { s with heap := s.heap.push o } G r h
  | fresh k ih => intro Q E p s G r h; exact ih _ Q E p { s with toks := s.toks + 1 } G r h
  | ask k ih => intro Q E p s G r h; exact ih _ Q E p s G r h
  | choose src m k ih => intro Q E p s G r h; exact ⟨h.1, ih _ Q E p { s with drawn := s.drawn.bump src } G r h.2⟩
  | os q _ k ih => intro Q E p s G r h; exact ih _ Q E p { s with os := (Os.step s.os q).1 } G r h
  | call c hd _ _ k ih =>
    intro Q E p s G r h
    obtain ⟨res, s', hr, h⟩ := h
    obtain ⟨G', h1, h2, _⟩ := lock hr rfl G r
    exact ⟨res, _, h1, ih res Q E p s' G' h2 h⟩
  | handled own k ih => intro Q E p s G r h; exact ih _ Q E p s G r h
  | genState g' k ih =>
    intro Q E p s G r h
    obtain ⟨st, hs, h⟩ := h
    obtain ⟨z, ez, es⟩ := r.alike hs
    refine ⟨z, ez, ?_⟩
    rw [← es]
    exact ih _ Q E p s G r h
  | newGen c k ih =>
    intro Q E p s G r h
    have := ih s.gens.size Q E p { s with gens := s.gens.push (.fresh c) } (G.push (.fresh c)) (r.grow c) h
    show wp M Γ (k G.size) _ _ p _
    rw [← r.size]
    exact this
  | resume g' rr _ k ih =>
    intro Q E p s G r h
    obtain ⟨res, s', hw, h⟩ := h
    have key : ∃ G', Wakes M Γ p g' rr { s with gens := G } res { s' with gens := G' } ∧ GRel g x s'.gens G' := by
      unfold Wakes at hw
      split at hw
      · exact hw.elim
      · rename_i c e
        obtain ⟨e', hne⟩ := r.atFresh e
        unfold Wakes
        rw [show ({ s with gens := G } : Shared).gens[g']? = some (.fresh c) from e']
        split at hw
        · obtain ⟨e₁, s₁, hr, hq, rfl, rfl⟩ := hw
          obtain ⟨G1, h1, h2, h3⟩ := lock hr rfl _ (r.set (y := .running) hne fun _ _ _ _ _ _ z => by cases z)
          exact ⟨G1.setIfInBounds g' e₁.genState, ⟨e₁, _, h1, hq, rfl, rfl⟩, h2.set hne (endOk_gen h3)⟩
        · obtain ⟨rfl, rfl⟩ := hw
          exact ⟨G, ⟨rfl, rfl⟩, r⟩
        · obtain ⟨rfl, rfl⟩ := hw
          exact ⟨G.setIfInBounds g' .finished, ⟨rfl, rfl⟩, r.set hne fun _ _ _ _ _ _ z => by cases z⟩
      · rename_i k₀ l₀ c₀ p₀ fs cl e
        obtain ⟨e₁, s₁, hr, hq, rfl, rfl⟩ := hw
        obtain ⟨hne, e', ho⟩ := r.wake e hr
        obtain ⟨G1, h1, h2, h3⟩ := lock hr ho _ (r.set (y := .running) hne fun _ _ _ _ _ _ z => by cases z)
        refine ⟨G1.setIfInBounds g' e₁.genState, ?_, h2.set hne (endOk_gen h3)⟩
        unfold Wakes
        rw [show ({ s with gens := G } : Shared).gens[g']? = some (.suspended k₀ l₀ c₀ p₀ fs cl) from e']
        exact ⟨e₁, _, h1, hq, rfl, rfl⟩
      · rename_i e
        obtain ⟨rfl, rfl⟩ := hw
        refine ⟨G, ?_, r⟩
        unfold Wakes
        rw [show ({ s' with gens := G } : Shared).gens[g']? = some .running from r.plain e (.inl rfl)]
        exact ⟨rfl, rfl⟩
      · rename_i e
        obtain ⟨rfl, rfl⟩ := hw
        refine ⟨G, ?_, r⟩
        unfold Wakes
        rw [show ({ s' with gens := G } : Shared).gens[g']? = some .finished from r.plain e (.inr rfl)]
        exact ⟨rfl, rfl⟩
    obtain ⟨G', h1, h2⟩ := key
    exact ⟨res, _, h1, ih res Q E p s' G' h2 h⟩
  | yield _ _ _ _ => intro Q E p s G _ h; exact h
  | stack k ih => intro Q E p s G r h; exact ih _ Q E p s G r h
  | fork _ _ => intro Q E p s G _ h; exact h
  | thread k ih => intro Q E p s G r h; exact ih _ Q E p s G r h
  | await _ _ _ _ _ => intro Q E p s G _ h; exact h

/-- the table with every sleeper made dumb -/
def dumbs (G : Array GenState) : Array GenState := G.map dumb
theorem dumbs_at {G : Array GenState} {i : Nat} : (dumbs G)[i]? = G[i]?.map dumb := by unfold dumbs; simp
theorem dumbs_rel {G : Array GenState} (h : G[g]? = some x) (hs : sleeps x) : GRel g x (dumbs G) G where
  size := by unfold dumbs; simp
  at_ := fun i y e => by
    rw [dumbs_at] at e
    cases ez : G[i]? with
    | none => rw [ez] at e; cases e
    | some z =>
      rw [ez] at e
      simp only [Option.map_some, Option.some.injEq] at e
      subst e
      cases z with
      | suspended k l c p fs cl => exact .inr ⟨_, rfl, rfl, trivial⟩
      | _ => exact .inl ⟨rfl, fun _ _ _ _ _ _ z => by cases z⟩
  here := h
  hereD := by rw [dumbs_at, h]; rfl
  sl := hs
theorem dumbs_bare {G : Array GenState} (h : AllBare G) : AllBare (dumbs G) := fun y hy => by
  unfold dumbs at hy
  obtain ⟨z, hz, rfl⟩ := Array.mem_map.mp hy
  rw [dumb_bare]; exact h z hz
/-- THE RULE: run it with the sleepers dumb; the sleeper stays -/
theorem asleep {α : Type} {A : Around} {t : Sem α} {Q : α → Shared → Prop} {E : Value → Shared → Prop} {s : Shared} (hx : s.gens[g]? = some x) (hs : sleeps x) (h : wpAny M A t Q E { s with gens := dumbs s.gens }) :
    wpAny M A t (fun a s' => s'.gens[g]? = some x ∧ ∃ D, (AllBare D → AllBare s'.gens) ∧ Q a { s' with gens := D }) (fun e s' => s'.gens[g]? = some x ∧ ∃ D, (AllBare D → AllBare s'.gens) ∧ E e { s' with gens := D }) s := by
  intro Γ p hΓ
  have := wp_lock (M := M) t _ _ p { s with gens := dumbs s.gens } s.gens (dumbs_rel hx hs) (h Γ p hΓ)
  refine Sem.wp_mono _ _ t (fun a p' s' => ?_) (fun e p' s' => ?_) _ _ this
  · rintro ⟨D, r, q⟩
    exact ⟨r.here, D, r.bare, q⟩
  · rintro ⟨D, r, q⟩
    exact ⟨r.here, D, r.bare, q⟩
end
end Tw
/-! Ggn: a generator walked by a comprehension (own rule: the walk's state may lie in the table of generators). -/
namespace Tw
open PySem PyProof.Rows L2 GenW

section
variable {X : Cx} {pins : List (Addr × Obj)} {σ : L2.St} {H : Hp} {s : Shared}
theorem regen {D : Array GenState} (I : Inv X pins σ H { s with gens := D }) (hb : AllBare D → AllBare s.gens) : Inv X pins σ H s :=
  ⟨I.ok, I.os, hb I.bare, I.base, I.loc, I.cell, I.free, I.freeC, I.pin, I.hok, I.len⟩
theorem dull (I : Inv X pins σ H s) : Inv X pins σ H { s with gens := dumbs s.gens } :=
  ⟨I.ok, I.os, dumbs_bare I.bare, I.base, I.loc, I.cell, I.free, I.freeC, I.pin, I.hok, I.len⟩
end
/-- what runs while x sleeps at g -/
theorem thnZ {α : Type} {M : Model} {A : Around} {t : Sem α} {Q Q' : α → Shared → Prop} {E : Value → Shared → Prop} {s : Shared} {g : Nat} {x : GenState} (hx : s.gens[g]? = some x) (hs : sleeps x)
    (h : wpAny M A t Q (fun _ _ => False) { s with gens := dumbs s.gens })
    (hQ : ∀ a s' D, (AllBare D → AllBare s'.gens) → s'.gens[g]? = some x → Q a { s' with gens := D } → Q' a s') : wpAny M A t Q' E s :=
  wpAny_mono (asleep hx hs h) (fun a s' ⟨h1, D, h2, h3⟩ => hQ a s' D h2 h1 h3) fun e s' ⟨_, _, _, h3⟩ => h3.elim

/-- a walk whose state may lie in the table of generators; fp: the objects that are its own at this turn; stk: the frames it is woken from -/
structure TurnG (P : Program) (w : World) (K : PySem.W.Frag) (mg : Str → Option Value) (base : Heap) (tg : Expr) (J : It) (it : Addr) (k : Nat) (stk : List Env) (tn : Nat → List Addr → Heap → Array GenState → Prop) : Prop where
  obj : ∀ i fp h G, tn i fp h G → ∀ b ∈ fp, ∃ o, h.get? b = some o ∧ ∀ v, o.data ≠ .cell v
  keep : ∀ i fp h h' G, tn i fp h G → (∀ b ∈ fp, ∀ o, h.get? b = some o → h'.get? b = some o) → tn i fp h' G
  asl : ∀ i fp h G, tn (i + 1) fp h G → ∃ (g : Nat) (x : GenState), G[g]? = some x ∧ sleeps x ∧ ∀ G' : Array GenState, G'[g]? = some x → tn (i + 1) fp h G'
  item : ∀ (X : Cx), X.prog = P → X.w = w → X.K = K → X.mg = mg → X.base = base → X.stack = stk → X.calm = true → Room k X.A → ∀ (i : Nat) (fp : List Addr) (pins : List (Addr × Obj)) (s : Shared) (σ : L2.St) (H : Hp),
    Inv X pins σ H s → (∀ b ∈ fp, FpOk X pins H b) → tn i fp s.heap s.gens → J.go i H →
    wpAny (model P w) X.A (pyNext (.ref it)) (fun r s1 => ∃ u, r = some u ∧
      wpAny (model P w) X.A (letOwnedTupleGo tg (.ref it) u) (fun _ s2 => ∃ x H' fp', Inv X pins σ H' s2 ∧ RelV x u ∧ J.yld i H x H' ∧ tn (i + 1) fp' s2.heap s2.gens ∧ ∀ b ∈ fp', FpOk X pins H' b) (fun _ _ => False) s1) (fun _ _ => False) s
  done : ∀ (X : Cx), X.prog = P → X.w = w → X.K = K → X.mg = mg → X.base = base → X.stack = stk → X.calm = true → Room k X.A → ∀ (i : Nat) (fp : List Addr) (pins : List (Addr × Obj)) (s : Shared) (σ : L2.St) (H : Hp),
    Inv X pins σ H s → (∀ b ∈ fp, FpOk X pins H b) → tn i fp s.heap s.gens → J.stop i H →
    wpAny (model P w) X.A (pyNext (.ref it)) (fun r s1 => r = none ∧ ∃ H', Same H H' ∧ Inv X pins σ H' s1) (fun _ _ => False) s
  self : ∀ (A : Around) (i : Nat) (fp : List Addr) (s : Shared) (Q : Value → Shared → Prop) (E : Value → Shared → Prop), tn i fp s.heap s.gens → Q (.ref it) s → wpAny (model P w) A (pyIter (.ref it)) Q E s
/-- it has come -/
def PIEG (X : Cx) (k : Nat) (pins : List (Addr × Obj)) (σ : L2.St) (tg : Expr) (R : It → Hp → Prop) (itv : Value) (s2 : Shared) : Prop :=
  ∃ (it : Addr) (fp : List Addr) (tn : Nat → List Addr → Heap → Array GenState → Prop) (J : It) (H' : Hp), itv = .ref it ∧ Inv X pins σ H' s2 ∧ TurnG X.prog X.w X.K X.mg X.base tg J it k X.stack tn ∧ tn 0 fp s2.heap s2.gens ∧
    (∀ b ∈ fp, FpOk X pins H' b) ∧ R J H'
structure PIG (X : Cx) (k : Nat) (tg iter : Expr) (wi : TI) : Prop where
  run : ∀ (pins : List (Addr × Obj)) (s : Shared) (σ : L2.St) (H : Hp) (R : It → Hp → Prop), Inv X pins σ H s → wi σ H R →
    wpAny (model X.prog X.w) X.A (eval iter X.env) (fun v s1 => wpAny (model X.prog X.w) X.A (pyIter v) (PIEG X k pins σ tg R) X.xe s1) X.xe s

section
variable {X : Cx}
/-- as tLc; at the end there may be more than was known -/
def tLcG (wi : TI) (g : TG) (tt : TT) (te : TE) (vs : List Nat) : TE := fun σ H Q => wi σ H fun J H1 => ∀ D, H1 D = none → ∃ W : Nat → Nat → Hp → Prop, (∃ m, W 0 m (upd H1 D (.lst []))) ∧ ∀ i m H, W i m H →
  (J.stop i H ∧ ∀ H', Same H H' → Q (.ref D) H') ∨ (J.go i H ∧ ∃ Nx : Hp → Prop, (∀ H', Nx H' → ∃ m', m' < m ∧ W (i + 1) m' H') ∧ ∀ x H', J.yld i H x H' → g x (wipe σ vs) H' fun σ2 H2 => wipe σ2 vs = wipe σ vs ∧ tt σ2 H2 fun b H3 =>
    if b = true then te σ2 H3 fun y H4 => ∃ acc, H4 D = some (.lst acc) ∧ acc.length < sizeLine ∧ Nx (upd H4 D (.lst (acc ++ [y]))) else Nx H3)
theorem pe_lcG {k : Nat} {elt tg iter : Expr} {ifs : List Expr} {scope : Scope} {own : List (Str × Nat)} {pos : Pos} {wi : TI} {g : TG} {tt : TT} {te : TE} (hc : X.calm = true) (hr : Room k X.A) (hN : X.N.Nodup) (hi : PIG X k tg iter wi) (ok : BlkOk X.N X.env.scope scope own)
    (hg : ∀ s H C cl fp, PG (X.blk s H scope (compEnvC scope cl C X.env) fp) tg g) (ht : ∀ s H C cl fp, PTs (X.blk s H scope (compEnvC scope cl C X.env) fp) ifs tt)
    (he : ∀ s H C cl fp, PE (X.blk s H scope (compEnvC scope cl C X.env) fp) elt te) (hs : ∀ x, foldedSetIterable iter X.env x = pure x := by intro _; rfl) :
    PE X (.ListComp elt [⟨tg, iter, ifs, 0⟩] scope pos) (tLcG wi g tt te (own.map (·.2))) := by
  refine ⟨fun pins s σ H Q I h => ?_⟩
  have closed : ∀ y ∈ scope.names, y.2 = .free → ∃ c, X.env.cells.lookup y.1 = some c := fun y hy e =>
    (ok.free y hy e).elim (fun z => I.ok.has _ (.inl z)) fun z => I.ok.has _ (.inr z)
  rw [eval_ListComp]
  refine wpAny_comprehension_free (use := none) rfl hs (closure_ok closed) ok.kind (fun y hy e => (ok.uniq y hy).trans (by rw [e])) (thn (hi.run pins s σ H _ I h) fun xv s1 hx => thn hx fun itv s2 h2 => ?_)
  obtain ⟨it, fp, tn, J, H2, rfl, I2, T, st2, f2, q⟩ := h2
  refine wpAny_newObj_type (newEnv_comp ?_) (by show 0 ≤ sizeLine; decide)
  -- the new list at D
  obtain ⟨D, hD⟩ : ∃ D, s2.heap.objs.size = D := ⟨_, rfl⟩
  obtain ⟨W, ⟨m0, w0⟩, turn⟩ := q D (I2.hok.fresh (Nat.le_of_eq hD))
  generalize e3 : ({ s2 with heap := s2.heap.push { cls := .type "list", data := .seq ([] : List Value).toArray } } : Shared) = s3
  have hp3 : s3.heap = s2.heap.push { cls := .type "list", data := .seq ([] : List Value).toArray } := by rw [← e3]
  have hg3 : s3.gens = s2.gens := by rw [← e3]
  have kp3 : ∀ b o, s2.heap.get? b = some o → s3.heap.get? b = some o := fun b o e => by rw [hp3]; exact Heap.get?_push_of_some _ e
  have I3 : Inv X pins σ (upd H2 D (.lst [])) s3 := by
    rw [← e3]
    exact I2.laid (t' := s2.toks) (fun b o e => Heap.get?_push_of_some _ e) (Nat.le_of_eq hD) ⟨Nat.zero_le _, [], 0, .nil, by rw [← hD]; exact Heap.get?_push_size _ rfl⟩
  have f3 : ∀ b ∈ fp, FpOk X pins (upd H2 D (.lst [])) b ∧ b < s3.heap.objs.size := fun b hb => by
    obtain ⟨o, e, _⟩ := T.obj _ _ _ _ st2 b hb
    have hlt := Heap.lt_size e
    exact ⟨⟨(upd_ne (by rw [← hD]; exact Nat.ne_of_lt hlt)).trans (f2 b hb).1, (f2 b hb).2⟩, Heap.lt_size (kp3 b o e)⟩
  have st3 : tn 0 fp s3.heap s3.gens := by rw [hg3]; exact T.keep _ _ _ _ _ st2 fun b _ o e => kp3 b o e
  have I4 := block_start I3 ok hN f3
  generalize eH : upd H2 D (.lst []) = H3 at I3 I4 w0 f3
  generalize eS : ({ s3 with heap := pushCells (s3.heap.push { cls := .type "dict", data := .dict #[] }) scope.names } : Shared) = s4 at I4
  have st4 : tn 0 fp s4.heap s4.gens := by
    rw [← eS]
    exact T.keep _ _ _ _ _ st3 fun b _ o e => pushCells_keeps _ _ _ _ (Heap.get?_push_of_some _ e)
  have pg := hg s3 H3 s3.heap.objs.size (cellsFrom (s3.heap.objs.size + 1) scope.names (cloFrom X.env.cells scope.names [])) fp
  have pt := ht s3 H3 s3.heap.objs.size (cellsFrom (s3.heap.objs.size + 1) scope.names (cloFrom X.env.cells scope.names [])) fp
  have pe := he s3 H3 s3.heap.objs.size (cellsFrom (s3.heap.objs.size + 1) scope.names (cloFrom X.env.cells scope.names [])) fp
  generalize eC : compEnvC scope (cellsFrom (s3.heap.objs.size + 1) scope.names (cloFrom X.env.cells scope.names [])) s3.heap.objs.size X.env = ce at I4 pg pt pe
  have cL : ce.locals = s3.heap.objs.size := by subst eC; rfl
  have loop : codeAny (model X.prog X.w) X.A (.compLoop (.ListComp elt [⟨tg, iter, ifs, 0⟩] scope pos) 0 (.ref it) (.ref D) ce) (compPost (model X.prog X.w) X.A X.xe none (EP X pins σ Q) (.ref D) s3.heap.objs.size) s4 := by
    have f4 : ∀ b ∈ fp, FpOk (X.blk s3 H3 scope ce fp) [] H3 b := fun b hb => ⟨(f3 b hb).1.1, (I4.ok.exf b hb).1, I4.ok.exfs b hb, .inl hb, fun x c e => (I4.ok.exf b hb).2 x c e, fun p hp => absurd (show p ∈ ([] : List (Addr × Obj)) ++ [] from hp) (by simp)⟩
    refine compLoop_any (fun n s' => ∃ i fp' H', Inv (X.blk s3 H3 scope ce fp) [] (wipe σ (own.map (·.2))) H' s' ∧ tn i fp' s'.heap s'.gens ∧ (∀ b ∈ fp', FpOk (X.blk s3 H3 scope ce fp) [] H' b) ∧ W i n H') ?_ m0 ⟨0, fp, H3, I4, st4, f4, w0⟩
    rintro n s5 ⟨i, fp5, H5, I5, st5, n5, w5⟩
    rcases turn i n H5 w5 with ⟨stop, qq⟩ | ⟨go, Nx, hNx, step⟩
    · refine thnF (T.done (X.blk s3 H3 scope ce fp) rfl rfl rfl rfl rfl rfl hc hr i fp5 [] s5 _ H5 I5 n5 st5 stop) fun r s6 ⟨er, H6, sm6, I6⟩ => ?_
      subst er
      have I7 : Inv X pins σ H6 s6 := I3.call' (ch := fp) I6.os I6.base I6.hok I6.bare fun b hb =>
        let z := (f3 b hb).1.2; ⟨z.2.2.1, z.1, z.2.2.2.1, z.2.2.2.2⟩
      have nC : H6 s3.heap.objs.size = none := by
        rw [← cL]; exact I6.free
      obtain ⟨m, hn, _⟩ := I6.loc
      have hn : s6.heap.Ns s3.heap.objs.size m := by rw [← cL]; exact hn
      refine ⟨m, hn, fun h'' sb => ?_⟩
      obtain ⟨z0, z1, _, z3, z4, z5⟩ := I3.fpOk (Nat.le_refl _) nC
      exact ⟨.ref D, H6, I7.turned (t' := s6.toks) (fun b o hb e => (sb.2 b hb).trans e) z0 z1 z3 z4 z5, rfl, qq _ sm6⟩
    · refine thnF (T.item (X.blk s3 H3 scope ce fp) rfl rfl rfl rfl rfl rfl hc hr i fp5 [] s5 _ H5 I5 n5 st5 go) fun r s6 ⟨u, er, h6⟩ => ?_
      subst er
      refine thnF h6 fun _ s7 ⟨x, H7, fp7, I7, r7, y7, st7, n7⟩ => ?_
      obtain ⟨gg, z, hz, sz, kz⟩ := T.asl _ _ _ _ st7
      have J7 := I7.pinned n7 (T.obj _ _ _ _ st7)
      refine thnZ hz sz (pg.run _ _ _ H7 x u _ (dull J7) r7 (step x H7 y7)) fun _ s8 D8 b8 hz8 ⟨σ8, H8, I8, hw8, q8⟩ => ?_
      replace I8 := regen I8 b8
      refine thnZ hz8 sz (pt.run _ _ σ8 H8 _ (dull I8) q8) fun b s9 D9 b9 hz9 ⟨H9, I9, q9⟩ => ?_
      replace I9 := regen I9 b9
      have fin : ∀ {s' : Shared} {H' : Hp}, s'.gens[gg]? = some z → Inv (X.blk s3 H3 scope ce fp) ([] ++ pinsAt fp7 s7.heap) σ8 H' s' → Nx H' →
          ∃ m, m < n ∧ ∃ i fp' H', Inv (X.blk s3 H3 scope ce fp) [] (wipe σ (own.map (·.2))) H' s' ∧ tn i fp' s'.heap s'.gens ∧ (∀ b ∈ fp', FpOk (X.blk s3 H3 scope ce fp) [] H' b) ∧ W i m H' := fun {s' H'} hz' I' nx => by
        obtain ⟨m', hm, w'⟩ := hNx H' nx
        have pin' : ∀ b ∈ fp7, ∀ o, s7.heap.get? b = some o → s'.heap.get? b = some o ∧ H' b = none := fun b hb o e =>
          let y := I'.pin (b, o) (List.mem_append_right _ (List.mem_append_right _ (mem_pinsAt hb e)))
          ⟨y.1, y.2.1⟩
        have hl : (wipe σ (own.map (·.2))).length = σ8.length := by rw [← hw8, wipe_length]
        refine ⟨m', hm, i + 1, fp7, H', (I'.unpinned (pins := [])).weak hl (fun j v e => ?_), ?_, fun b hb => ?_, w'⟩
        · rw [← hw8] at e
          exact (wipe_some e).1
        · exact T.keep _ _ _ _ _ (kz _ hz') fun b hb o e => (pin' b hb o e).1
        · obtain ⟨o, e, _⟩ := T.obj _ _ _ _ st7 b hb
          exact ⟨(pin' b hb o e).2, (n7 b hb).2⟩
      cases b with
      | false =>
        simp only [Bool.false_eq_true, if_false] at q9 ⊢
        exact fin hz9 I9 q9
      | true =>
        simp only [if_true] at q9 ⊢
        refine thnZ hz9 sz (pe.run _ _ σ8 H9 _ (dull I9) q9) fun y s10 D10 b10 hz10 ⟨yv, H10, I10, r10, acc, hD10, hz10', nx⟩ => ?_
        replace I10 := regen I10 b10
        exact thnZ hz10 sz (app_ok (X := X.blk s3 H3 scope ce fp) (dull I10) hD10 hz10' r10 fun s11 I11 => I11) fun _ s11 D11 b11 hz11 I11 => fin hz11 (regen I11 b11) nx
  have hh := codeAny_compStart_list loop (T.self X.A 0 _ _ _ _ st4 loop)
  rw [hD]
  rw [← eC] at hh
  exact hh
end
end Tw
/-! Gsp: one waking of a generator: from where it stands to its next yield, or to its end. -/
namespace Tw
open PySem PyProof.Rows L2 GenW

/-- the code's run ends, and T holds of the end -/
def Step (M : Model) (A : Around) (T : End → Shared → Prop) (c : Code) (t : Sem PySem.Fin) (fs : List Frame) (s : Shared) : Prop :=
  ∀ Γ p, Γ.code = c → Γ.Woken A → ∃ e s', Runs M Γ p t fs s e s' ∧ T e s'
section
variable {M : Model} {A : Around} {T : End → Shared → Prop} {c : Code} {fs : List Frame} {s : Shared} {env : Env}
abbrev Nx : Value → Shared → Prop := fun _ _ => False
theorem stp_wrap {α : Type} {m : Sem α} {K : α → Sem PySem.Fin} {J : Value → Sem PySem.Fin} {gd : Bool → Bool} {lv : List Value → List Value} (h : wpAny M (A.over c fs) m (fun a s' => Step M A T c (K a) fs s') Nx s) : Step M A T c (m.wrap K J gd lv) fs s := by
  rintro Γ p rfl hΓ
  exact runs_wrap_of_wp K J gd lv m (h (Γ.over fs) p (hΓ.over fs)) (fun a p' s' z => z Γ p' rfl hΓ) fun _ _ _ z => z.elim
theorem stp_bindw {α β : Type} {m : Sem α} {f : α → Sem β} {K : β → Sem PySem.Fin} {J : Value → Sem PySem.Fin} {gd : Bool → Bool} {lv : List Value → List Value}
    (h : wpAny M (A.over c fs) m (fun a s' => Step M A T c ((f a).wrap K J gd lv) fs s') Nx s) : Step M A T c ((m >>= f).wrap K J gd lv) fs s := by
  rw [Sem.bind_eq_wrap', Sem.wrap_wrap]
  exact stp_wrap h
theorem stp_bind {α : Type} {m : Sem α} {K : α → Sem PySem.Fin} (h : wpAny M (A.over c fs) m (fun a s' => Step M A T c (K a) fs s') Nx s) : Step M A T c (m >>= K) fs s := by
  rw [Sem.bind_eq_wrap']
  exact stp_wrap h
theorem stp_at {p' : Pos} {k : Unit → Sem PySem.Fin} (h : Step M A T c (k ()) fs s) : Step M A T c (.at p' k) fs s :=
  stp_wrap (m := standAt p') (K := k) (J := .raise) (gd := id) (lv := id) (wpAny_standAt h)
theorem stp_point {l : List Value} {k : Unit → Sem PySem.Fin} (h : Step M A T c (k ()) fs s) : Step M A T c (.point l k) fs s :=
  stp_wrap (m := point) (K := k) (J := .raise) (gd := id) (lv := fun _ => l) (wpAny_point h)
theorem stp_call {c' : Code} {hd : Option Value} {g : Bool} {l : List Value} {k : Result → Sem PySem.Fin} (h : ∀ p, Step M A T c' (M.den c') (.ret k hd g l c p [] :: fs) s) : Step M A T c (.call c' hd g l k) fs s := by
  rintro Γ p rfl hΓ
  obtain ⟨e, s', hr, he⟩ := h p (Γ.goto c') p rfl (hΓ.goto c')
  exact ⟨e, s', runs_call_seg hr, he⟩
theorem stp_leaf {k : Result → Sem PySem.Fin} {hd : Option Value} {g : Bool} {l kp : List Value} {c₁ : Code} {p₁ : Pos} (r : Result) (h : Step M A T c₁ (k r) fs s) : Step M A T c (leafOf r) (.ret k hd g l c₁ p₁ kp :: fs) s := by
  rintro Γ p rfl hΓ
  obtain ⟨e, s', hr, he⟩ := h (Γ.goto c₁) p₁ rfl (hΓ.goto c₁)
  exact ⟨e, s', Runs.pop r hr, he⟩
theorem stp_again {c' : Code} (hq : c'.quiet = true) (h : Step M A T c' (M.den c') fs s) : Step M A T c (.pure (.again c')) fs s := by
  rintro Γ p rfl hΓ
  obtain ⟨e, s', hr, he⟩ := h (Γ.goto c') p rfl (hΓ.goto c')
  exact ⟨e, s', Runs.head (c₁ := c') (fun _ _ x => .again hq x) hr, he⟩
theorem stp_end (r : Result) (h : T (.ret r) s) : Step M A T c (leafOf r) [] s := by
  rintro Γ p rfl _
  exact ⟨.ret r, s, Runs.leaf r, h⟩
theorem stp_yield {v : Value} {gb : Bool} {l : List Value} {k : Resume → Sem PySem.Fin} (hfs : splitAtGen fs = none) (hg : gb = false) (h : ∀ p, T (.susp v false l k c p fs) s) : Step M A T c (.yield v gb l k) fs s := by
  subst hg
  rintro Γ p rfl _
  exact ⟨_, s, Runs.yield' fs hfs, h p⟩
section
variable {K : Flow → Sem PySem.Fin} {J : Value → Sem PySem.Fin} {gd : Bool → Bool} {lv : List Value → List Value}
theorem stp_nil (h : Step M A T c (K .next) fs s) : Step M A T c ((execs [] env).wrap K J gd lv) fs s := h
theorem stp_cons {st : Stmt} {rest : List Stmt} (h : Step M A T c ((exec st env).wrap (fun f => match f with | .next => (execs rest env).wrap K J gd lv | f => K f) J gd lv) fs s) :
    Step M A T c ((execs (st :: rest) env).wrap K J gd lv) fs s := by rw [execs_cons_wrap]; exact h
/-- yield e, as a statement -/
theorem stp_Yield {e : Expr} {yp pos : Pos} (hfs : splitAtGen fs = none) (hgd : gd false = false) (hco : env.scope.isCoroutine = false) (hi : interactive env = false)
    (h : wpAny M (A.over c fs) (eval e env) (fun v s' => ∀ l k p, (∀ A' T' s'', Step M A' T' c (K .next) fs s'' → Step M A' T' c (k (.send .none)) fs s'') → T (.susp v false l k c p fs) s') Nx s) :
    Step M A T c ((exec (.Expr (.Yield (some e) yp) pos) env).wrap K J gd lv) fs s := by
  rw [exec_Expr env _ pos hi rfl]
  show Step M A T c (.at pos fun _ => ((eval e env >>= fun v => (standAt yp >>= fun _ => yieldOut env v)) >>= fun x => dropValue (.Yield (some e) yp) pos x).wrap K J gd lv) fs s
  have hy : ∀ v, yieldOut env v = yieldValue v := fun v => by simp only [yieldOut, hco, Bool.false_eq_true, if_false]
  simp only [hy]
  refine stp_at ?_
  rw [Sem.bind_eq_wrap', Sem.bind_eq_wrap', Sem.wrap_wrap, Sem.wrap_wrap]
  refine stp_wrap (wpAny_mono h (fun v s' h' => ?_) fun _ _ x => x)
  refine stp_at (stp_yield hfs hgd fun p => h' _ _ p fun A' T' s'' z => z)
/-- what a loop's code comes back to -/
abbrev fromLoop (env : Env) (K : Flow → Sem PySem.Fin) (J : Value → Sem PySem.Fin) (gd : Bool → Bool) (lv : List Value → List Value) : Result → Sem PySem.Fin := fun r =>
  ((match r with | .ok f => (.pure f : Sem Flow) | .error e => .raise e).onRaise fun (x : Value) => do
    if (← field x 1) == Value.none then unsupported "frame.own-activation:exception-without-traceback"
    setFlight x env.frame).wrap K J gd lv
theorem stp_For {tgt iter : Expr} {body : List Stmt} {pos : Pos} (hs : ∀ x, foldedSetIterable iter env x = pure x)
    (h : wpAny M (A.over c fs) (eval iter env) (fun x s1 => wpAny M (A.over c fs) (pyIter x) (fun it s2 => ∀ p, Step M A T (.forLoop tgt it body [] env) (M.den (.forLoop tgt it body [] env))
      (.ret (fromLoop env K J gd lv) none (gd false) (lv []) c p [] :: fs) s2) Nx s1) Nx s) :
    Step M A T c ((exec (.For tgt iter body [] pos) env).wrap K J gd lv) fs s := by
  rw [exec_For]
  refine stp_bindw (wpAny_standAt (stp_bindw (wpAny_mono h (fun x s1 h1 => ?_) fun _ _ z => z)))
  refine stp_bindw (wpAny_of_eq (hs x) (stp_bindw (wpAny_standAt (stp_bindw (wpAny_holding (wpAny_mono h1 (fun it s2 h2 => ?_) fun _ _ z => z))))))
  exact stp_call h2
end
end
section
variable {prog : Program} {w : World} {A : Around} {T : End → Shared → Prop} {fs : List Frame} {s : Shared} {env : Env}
theorem stp_forLoop {tgt : Expr} {it : Value} {body : List Stmt}
    (h : wpAny (model prog w) (A.over (.forLoop tgt it body [] env) fs) (pyNext it) (fun r s1 => match r with
      | none => Step (model prog w) A T (.block [] env) (leafOf (.ok .next)) fs s1
      | some v => wpAny (model prog w) (A.over (.forLoop tgt it body [] env) fs) (letOwnedTupleGo tgt it v) (fun _ s2 => wpAny (model prog w) (A.over (.forLoop tgt it body [] env) fs) (assign tgt env v) (fun _ s3 =>
        ∀ J, Step (model prog w) A T (.forLoop tgt it body [] env) ((execs body env).wrap (fun f => match f with
          | .next | .cont => .pure (.again (.forLoop tgt it body [] env))
          | .brk => leafOf (.ok .next)
          | .ret v => leafOf (.ok (.ret v))) J id id) fs s3) Nx s2) Nx s1) Nx s) :
    Step (model prog w) A T (.forLoop tgt it body [] env) ((model prog w).den (.forLoop tgt it body [] env)) fs s := by
  show Step _ A T _ ((forTurn tgt it body [] env).onRaise (fun x => do noteFrame x env; theTreesLotGoes x)) fs s
  rw [Sem.onRaise_eq_wrap]
  unfold forTurn
  refine stp_bindw (wpAny_standAt (stp_bindw (wpAny_onRaise (wpAny_mono h (fun r s1 h1 => ?_) fun _ _ z => z.elim))))
  cases r with
  | none => exact stp_again rfl h1
  | some v =>
    refine stp_bindw (wpAny_mono h1 (fun _ s2 h2 => stp_bindw (wpAny_mono h2 (fun _ s3 h3 => ?_) fun _ _ z => z)) fun _ _ z => z)
    rw [Sem.bind_eq_wrap', Sem.wrap_wrap]
    refine Eq.mp (congrArg (fun t => Step (model prog w) A T _ t fs s3) (Sem.wrap_congr (execs body env) _ _ (fun f => ?_) fun e => rfl)) (h3 _)
    cases f <;> rfl
/-- a generator def's body begins -/
theorem stp_func {body : List Stmt} (h : ∀ J, Step (model prog w) A T (.func body env) ((execs body env).wrap (fun f => leafOf (.ok (.ret (match f with | .ret v => v | _ => .none)))) J id id) fs s) :
    Step (model prog w) A T (.func body env) ((model prog w).den (.func body env)) fs s := by
  show Step _ A T _ (.point [] fun _ => ((execs body env).onRaise (leaving env)) >>= _) fs s
  refine stp_point ?_
  rw [Sem.onRaise_eq_wrap, Sem.bind_eq_wrap', Sem.wrap_wrap]
  refine Eq.mp (congrArg (fun t => Step (model prog w) A T _ t fs s) (Sem.wrap_congr (execs body env) _ _ (fun f => ?_) fun e => rfl)) (h _)
  cases f <;> rfl
/-- where a generator stands -/
def StepOf (M : Model) (A : Around) (T : End → Shared → Prop) (gs : GenState) (s : Shared) : Prop :=
  match gs with
  | .fresh c => Step M A T c (M.den c) [] s
  | .suspended k _ c _ fs _ => Step M A T c (k (.send .none)) fs s
  | _ => False
/-- it is woken -/
theorem wpAny_resumeS {M : Model} {g : Nat} {gs : GenState} {l : List Value} {α : Type} {k : GenResult → Sem α} {E : Value → Shared → Prop} {Q : α → Shared → Prop} (hg : s.gens[g]? = some gs) (hgo : StepOf M A T gs (s.setGen g .running))
    (hT : ∀ e s₁, T e s₁ → e.quiet = true ∧ wpAny M A (k e.result) Q E (s₁.setGen g e.genState)) : wpAny M A (.resume g (.send .none) l k) Q E s := by
  intro Γ p hΓ
  rw [Sem.wp_resume]
  cases gs with
  | fresh c =>
    obtain ⟨e₁, s₁, hr, he⟩ := hgo (Γ.wake c p) p rfl (hΓ.wake c p)
    obtain ⟨hq, hk⟩ := hT e₁ s₁ he
    refine ⟨_, _, ?_, hk Γ p hΓ⟩
    unfold Wakes
    rw [hg]
    exact ⟨e₁, s₁, hr, hq, rfl, rfl⟩
  | suspended k₀ l₀ c₀ p₀ fs₀ cl =>
    obtain ⟨e₁, s₁, hr, he⟩ := hgo (Γ.wake c₀ p) p₀ rfl (hΓ.wake c₀ p)
    obtain ⟨hq, hk⟩ := hT e₁ s₁ he
    refine ⟨_, _, ?_, hk Γ p hΓ⟩
    unfold Wakes
    rw [hg]
    exact ⟨e₁, s₁, hr, hq, rfl, rfl⟩
  | running => exact hgo.elim
  | finished => exact hgo.elim
/-- what a waking may end with: a yield, or the end -/
def Told (Yv : Value → GenState → Shared → Prop) (D : Shared → Prop) (e : End) (s : Shared) : Prop :=
  match e with
  | .susp v g l k c p fs => (End.susp v g l k c p fs).quiet = true ∧ Yv v (End.susp v g l k c p fs).genState s
  | .ret (.ok (.ret .none)) => D s
  | _ => False
theorem pyNextS {E : Value → Shared → Prop} {Q : Option Value → Shared → Prop} {a : Addr} {g : Nat} {gs : GenState} {Yv : Value → GenState → Shared → Prop} {D : Shared → Prop} (hh : A.handled = none) (hl : s.heap.NoLimit) (hroom : A.depth < recursionLimit) (hg : s.heap.IsGen a g)
    (hgs : s.gens[g]? = some gs) (hgo : StepOf (model prog w) A.in1 (Told Yv D) gs (s.setGen g .running))
    (hY : ∀ v gs' s₁, Yv v gs' s₁ → Q (some v) (s₁.setGen g gs'))
    (hD : ∀ s₁, D s₁ → ∀ h', (∀ b o, s₁.heap.get? b = some o → h'.get? b = some o) → Q none { s₁.setGen g .finished with heap := h' }) : wpAny (model prog w) A (pyNext (.ref a)) Q E s := by
  unfold pyNext
  refine wpAny_bind (wpAny_attempt (wpAny_callSpecial?_slot (name := Str.ofString "__next__") hg.typeIs slot_gen_next (wpAny_call_entry slot_gen_next hg.typeIs entry_gen_next ?_ (args_gen_next _))))
  show wpAny _ A.in1 (Builtin.Generator.genWake (.ref a) (.send .none)) _ _ s
  unfold Builtin.Generator.genWake
  refine wpAny_bind (wpAny_holding (wpAny_genNumber hg (wpAny_bind (wpAny_genState hgs ?_))))
  cases gs with
  | running => exact hgo.elim
  | finished => exact hgo.elim
  | _ =>
    refine wpAny_bind (wpAny_roomToWake hl hroom ?_)
    show wpAny _ A.in1 (.resume g (.send .none) [] _) _ _ s
    refine wpAny_resumeS hgs hgo fun e s₁ he => ?_
    cases e with
    | susp v gg l kk c p fs =>
      obtain ⟨h1, h2⟩ := he
      exact ⟨h1, wpAny_pure ⟨v, rfl, wpAny_pure (hY v _ s₁ h2)⟩⟩
    | ret r =>
      cases r with
      | error x => exact he.elim
      | ok f =>
        cases f with
        | ret v =>
          cases v with
          | none =>
            refine ⟨rfl, ?_⟩
            show wpAny _ A.in1 (newExc (.type "StopIteration") [] >>= _) _ _ _
            simp only [newExc, newTuple]
            refine wpAny_bind (wpAny_bind (wpAny_newObj_type ?_ (by size_fits)))
            refine wpAny_bind (m := firstArgMember _ _) (wpAny_of_eq (a := Value.none) (by first | rfl | (simp only [firstArgMember]; rfl)) ?_)
            refine wpAny_newObj_type ?_ (by size_fits)
            simp only [raiseNew]
            refine wpAny_bind (wpAny_bind (wpAny_handled ?_))
            first | rw [show A.in1.handled = none from hh] | rw [hh]
            refine wpAny_throw ?_
            refine wpAny_bind (wpAny_isInstance (T := "StopIteration") (b := true) ⟨_, Heap.get?_push_size _ rfl, rfl⟩ isSubtype_stop ?_)
            exact wpAny_pure (hD s₁ he _ fun b o hb => Heap.get?_push_of_some _ (Heap.get?_push_of_some _ hb))
          | _ => exact he.elim
        | _ => exact he.elim
end
end Tw
/-! Ggh: the hand layer's context for one waking of a generator: what stood when it was woken is older than its frame, or known by its very objects. -/
namespace Tw
open PySem PyProof.Rows L2 GenW
abbrev Sg := L2.St

theorem there {P : Program} {w : World} {H : Hp} {h : Heap} {a : Addr} {o : HO} (x : ObjOk P w H h a o) : ∃ u, h.get? a = some u := by
  cases o with
  | lst xs => obtain ⟨_, _, _, _, e⟩ := x; exact ⟨_, e⟩
  | tup xs => obtain ⟨_, _, _, ⟨o, e, _⟩⟩ := x; exact ⟨_, e⟩
  | dK kvs => obtain ⟨_, _, _, _, o, _, _, e, _⟩ := x; exact ⟨_, e⟩
  | dT kvs => obtain ⟨_, _, _, _, o, _, _, e, _⟩ := x; exact ⟨_, e⟩
  | set S n => obtain ⟨o, _, _, _, e, _⟩ := x; exact ⟨_, e⟩
  | ins C dx fs => obtain ⟨_, _, _, e, _⟩ := x; exact ⟨_, e⟩
  | own y => exact x
  | xd fs => obtain ⟨_, ⟨_, _, _, e, _⟩, _⟩ := x; exact ⟨_, e⟩
  | rng lo hi => obtain ⟨_, _, _, e⟩ := x; exact ⟨_, e⟩
  | frz ob u => exact ⟨_, x.1⟩
  | tbl ps => exact ⟨_, x⟩
  | met f y => exact ⟨_, x⟩
  | ext φ => exact x.2.1
/-- what is told by its own object alone, and is no part of another thing -/
def plain : HO → Prop
  | .lst _ => True
  | .dK _ => True
  | .frz _ (.dK _) => True
  | _ => False
theorem plain_stay {P : Program} {w : World} {H H' : Hp} {h h' : Heap} {a : Addr} {u : HO} (x : ObjOk P w H h a u) (p : plain u) (k : ∀ o, h.get? a = some o → h'.get? a = some o) : ObjOk P w H' h' a u := by
  cases u with
  | lst xs => obtain ⟨z, its, n, r, e⟩ := x; exact ⟨z, its, n, r, k _ e⟩
  | dK kvs => obtain ⟨z, y, vs, r, ob, es, ep, e, c⟩ := x; exact ⟨z, y, vs, r, ob, es, ep, k _ e, c⟩
  | frz o v =>
    cases v with
    | dK kvs => obtain ⟨e1, z, y, vs, r, ob, es, ep, e, c⟩ := x; exact ⟨k _ e1, z, y, vs, r, ob, es, ep, k _ e, c⟩
    | _ => exact p.elim
  | _ => exact p.elim

/-- the heap below L -/
def cut (s : Shared) (L : Nat) : Shared := { s with heap := { s.heap with objs := s.heap.objs.extract 0 L } }
theorem cut_get {s : Shared} {L b : Nat} {o : Obj} : (cut s L).heap.get? b = some o ↔ b < L ∧ s.heap.get? b = some o := by
  show (match (s.heap.objs.extract 0 L)[b]? with | some ⟨_, _, .freed, _⟩ => none | o => o) = some o ↔ b < L ∧ (match s.heap.objs[b]? with | some ⟨_, _, .freed, _⟩ => none | o => o) = some o
  rw [Array.getElem?_extract]
  by_cases h : b < L
  · simp only [Nat.zero_add, Nat.sub_zero]
    by_cases h2 : b < s.heap.objs.size
    · rw [if_pos (by omega)]
      simp [h]
    · rw [if_neg (by omega), Array.getElem?_eq_none (by omega)]
      simp
  · rw [if_neg (by omega)]
    simp [h]
theorem cut_size {s : Shared} {L : Nat} (h : L ≤ s.heap.objs.size) : (cut s L).heap.objs.size = L := by
  show (s.heap.objs.extract 0 L).size = L
  rw [Array.size_extract]; omega

/-- what the generator knows of the heap when it is woken: fp are its own objects, pd what it knows of them; all else that is younger than its frame is known by its very object -/
def mix (s : Shared) (H : Hp) (L : Nat) (fp : List Addr) (pd : Hp) : Hp := fun b =>
  if b ∈ fp then pd b else match H b with
    | some u => some u
    | none => if L ≤ b then (s.heap.get? b).map fun o => HO.frz o (.own 0) else none
section
variable {s : Shared} {H pd : Hp} {L b : Nat} {fp : List Addr}
theorem mix_own (h : b ∈ fp) : mix s H L fp pd b = pd b := by unfold mix; rw [if_pos h]
theorem mix_old {u : HO} (h : b ∉ fp) (e : H b = some u) : mix s H L fp pd b = some u := by unfold mix; rw [if_neg h, e]
theorem mix_frz {o : Obj} (h : b ∉ fp) (e : H b = none) (hl : L ≤ b) (eo : s.heap.get? b = some o) : mix s H L fp pd b = some (.frz o (.own 0)) := by unfold mix; rw [if_neg h, e, eo]; simp [hl]
theorem mix_low (h : b ∉ fp) (hl : b < L) : mix s H L fp pd b = H b := by
  unfold mix
  rw [if_neg h]
  cases e : H b with
  | none => rw [if_neg (by omega)]
  | some u => rfl
theorem mix_none (h : b ∉ fp) (e : mix s H L fp pd b = none) : H b = none := by
  cases q : H b with
  | none => rfl
  | some u => rw [mix_old h q] at e; cases e
end

/-- a generator's frame: no cells -/
structure GEnv (env : Env) (N : List Str) : Prop where
  kind : env.scope.kind = .function
  glob : env.globals = mainGlobals
  blt : env.builtins = builtinsNs
  cells : env.cells = []
  frame : env.frame = some env.locals
  nocell : ∀ x, env.scope.names.lookup x ≠ some .cell ∧ env.scope.names.lookup x ≠ some .free
/-- the context of one waking -/
def gX (P : Program) (w : World) (K : PySem.W.Frag) (mg : Str → Option Value) (base : Heap) (N : List Str) (env : Env) (stk : List Env) (A : Around) (s : Shared) (M : Hp) : Cx where
  prog := P
  w := w
  K := K
  mg := mg
  base := base
  A := A.deeper env
  N := N
  s_0 := cut s env.locals
  H_0 := M
  env := env
  outer := stk
  stack := env :: stk
  ex := []
  fn := fun x => env.scope.names.lookup x == some .cell
  calm := true
  pn := []
  xe := fun _ _ => False
/-- the names' values in the frame -/
def LocOk (N : List Str) (env : Env) (σ : Sg) (h : Heap) : Prop :=
  σ.length = N.length ∧ ∃ m, h.Ns env.locals m ∧ ∀ (i : Nat) (x : Str) (v : V), N[i]? = some x → σ[i]? = some (some v) → Vis env.scope x → ∃ u, RelV v u ∧ Look env h m x u
/-- a waking: s, H: where the consumer stands; fp: what the generator has of its own, as it stood at h -/
structure Wk (P : Program) (w : World) (K : PySem.W.Frag) (mg : Str → Option Value) (base : Heap) (k : Nat) (stk : List Env) (A : Around) (s : Shared) (H : Hp) (fp : List Addr) (h : Heap) : Prop where
  e0 : Env0 P w K mg base A stk s H
  room : Room k A
  no : ∀ b ∈ fp, H b = none
  keep : ∀ b ∈ fp, ∀ o, h.get? b = some o → s.heap.get? b = some o
/-- how it sleeps: the frame's place, what it knows of its own objects -/
structure Sleep (P : Program) (w : World) (base : Heap) (N : List Str) (env : Env) (stk : List Env) (σ : Sg) (fp : List Addr) (pd : Hp) (h : Heap) : Prop where
  genv : GEnv env N
  old : base.objs.size ≤ env.locals
  frs : ∀ b ∈ frs stk, b < env.locals
  here : env.locals ∈ fp
  young : ∀ b ∈ fp, env.locals ≤ b
  loc : LocOk N env σ h
  frame : pd env.locals = none
  dom : ∀ b u, pd b = some u → b ∈ fp ∧ plain u ∧ ObjOk P w pd h b u
section
variable {P : Program} {w : World} {K : PySem.W.Frag} {mg : Str → Option Value} {base : Heap} {k : Nat} {stk : List Env} {A : Around} {s : Shared} {H pd : Hp} {fp : List Addr} {h : Heap} {N : List Str} {env : Env} {σ : Sg}
/-- it wakes -/
theorem wake (W : Wk P w K mg base k stk A s H fp h) (Z : Sleep P w base N env stk σ fp pd h) : Inv (gX P w K mg base N env stk A s (mix s H env.locals fp pd)) [] σ (mix s H env.locals fp pd) s := by
  obtain ⟨hl, m, hn, hx⟩ := Z.loc
  obtain ⟨oL, es, ep, hoL, hrest⟩ := id hn
  have hoL' := W.keep _ Z.here _ hoL
  have hL : env.locals ≤ s.heap.objs.size := Nat.le_of_lt (Heap.lt_size hoL')
  have notin : ∀ b, b < env.locals → b ∉ fp := fun b hb hm => absurd (Z.young b hm) (Nat.not_le_of_lt hb)
  have nocell : ∀ x c, env.cells.lookup x = some c → False := fun x c e => by rw [Z.genv.cells] at e; cases e
  have kinds : ∀ x, env.kindOf x ≠ some .cell ∧ env.kindOf x ≠ some .free := fun x => Z.genv.nocell x
  have fr0 : ∀ b ∈ frs stk, mix s H env.locals fp pd b = none := fun b hb => by
    rw [mix_low (notin b (Z.frs b hb)) (Z.frs b hb)]
    exact W.e0.frf b hb
  have funs : ∀ l : List Env, (∀ b ∈ frs l, b < env.locals) → s.heap.FunFrames base l → (cut s env.locals).heap.FunFrames base l := by
    intro l
    induction l with
    | nil => intro _ _; trivial
    | cons e rest ih =>
      rintro hb ⟨h1, ⟨L, o, h2, h3, h4, h5⟩, h6⟩
      refine ⟨h1, ⟨L, o, h2, h3, cut_get.mpr ⟨hb L ?_, h4⟩, h5⟩, ih (fun b hm => hb b ?_) h6⟩
      · unfold L2.frs; rw [List.filterMap_cons, h2]; exact List.mem_cons_self
      · unfold L2.frs at hm ⊢; rw [List.filterMap_cons, h2]; exact List.mem_cons_of_mem _ hm
  have hok : HOk P w (mix s H env.locals fp pd) s.heap := by
    intro b u e
    by_cases hb : b ∈ fp
    · rw [mix_own hb] at e
      obtain ⟨_, hp, ho⟩ := Z.dom b u e
      exact plain_stay ho hp fun o q => W.keep b hb o q
    · cases q : H b with
      | some v =>
        rw [mix_old hb q] at e
        cases e
        have nf : ∀ {d u}, H d = some u → d ∉ fp := fun {d u} z hm => by rw [W.no d hm] at z; cases z
        exact (W.e0.hok b _ q).stay (fun _ _ _ z => z) (fun d z => mix_old (nf z) z) fun d xs z => mix_old (nf z) z
      | none =>
        unfold mix at e
        rw [if_neg hb, q] at e
        simp only at e
        split at e
        · cases qo : s.heap.get? b with
          | none => rw [qo] at e; cases e
          | some o =>
            rw [qo] at e
            cases e
            exact ⟨qo, o, qo⟩
        · cases e
  refine ⟨⟨W.e0.mod, Z.genv.kind, Z.genv.glob, Z.genv.blt, Nat.le_of_eq (cut_size hL), fun x y c e => (nocell x c e).elim, fun x e => e.elim (fun z => absurd z (kinds x).1) fun z => absurd z (kinds x).2, fun x c _ e => (nocell x c e).elim,
    fun _ => W.room.hd, Around.frames_deeper W.e0.frames, .inr ⟨rfl, Z.genv.frame⟩, fun b z => absurd (show b ∈ ([] : List Addr) from z) (by simp), fun b o e => ?_, ?_, fun b o _ z => absurd (show b ∈ ([] : List Addr) from z) (by simp), fun b z => absurd (show b ∈ ([] : List Addr) from z) (by simp), funs stk Z.frs W.e0.funs, fr0⟩,
    rfl, W.e0.bare, Un.kept fun b o e => (cut_get.mp e).2, ⟨m, ⟨oL, es, ep, hoL', hrest⟩, fun i x v e1 e2 e3 => ?_⟩, fun x c e => (nocell x c e).elim, ?_, fun x c e => (nocell x c e).elim, fun p hp => absurd (show p ∈ ([] : List (Addr × Obj)) ++ [] from hp) (by simp), hok, hl⟩
  · have hb : b < env.locals := Nat.lt_of_lt_of_le (Heap.lt_size e) Z.old
    obtain ⟨z1, z2⟩ := W.e0.bs b o e
    exact ⟨cut_get.mpr ⟨hb, z1⟩, (mix_low (notin b hb) hb).trans z2⟩
  · exact Nat.le_trans Z.old (Nat.le_of_eq (cut_size hL).symm)
  · obtain ⟨u, r, l⟩ := hx i x v e1 e2 e3
    refine ⟨u, r, ?_⟩
    rcases l with l | ⟨l, _⟩
    · exact .inl l
    · rcases l with z | z
      · exact absurd z (kinds x).1
      · exact absurd z (kinds x).2
  · exact (mix_own Z.here).trans Z.frame
/-- what a waking gives the consumer: the heap goes from H to H' as by a call, but for the generator's own objects, of which there may be more -/
structure Prom (P : Program) (w : World) (stk : List Env) (s : Shared) (H : Hp) (fp : List Addr) (s' : Shared) (H' : Hp) : Prop where
  os : s'.os = s.os
  bare : AllBare s'.gens
  un : Un (frs stk) fp H H' s.heap s'.heap
  hok : HOk P w H' s'.heap
  same : Same H H'
/-- its own objects then -/
def Mine (s : Shared) (fp : List Addr) (s' : Shared) (H' : Hp) (fp' : List Addr) : Prop := ∀ b ∈ fp', H' b = none ∧ (b ∈ fp ∨ s.heap.objs.size ≤ b) ∧ ∃ o, s'.heap.get? b = some o ∧ ∀ v, o.data ≠ .cell v
theorem plain_obj {P : Program} {w : World} {H : Hp} {h : Heap} {a : Addr} {u : HO} (x : ObjOk P w H h a u) (p : plain u) : ∃ o, h.get? a = some o ∧ ∀ v, o.data ≠ .cell v := by
  have dk : ∀ kvs, ObjOk P w H h a (.dK kvs) → ∃ o, h.get? a = some o ∧ ∀ v, o.data ≠ .cell v := fun kvs x => by
    obtain ⟨_, _, _, _, o, es, ep, e, _, hd, _⟩ := x
    exact ⟨o, e, fun v z => by rw [hd] at z; cases z⟩
  cases u with
  | lst xs => obtain ⟨_, _, _, _, e⟩ := x; exact ⟨_, e, fun v z => by cases z⟩
  | dK kvs => exact dk kvs x
  | frz o v =>
    cases v with
    | dK kvs => exact dk kvs x.2
    | _ => exact p.elim
  | _ => exact p.elim
open Classical in
/-- what the consumer knows then -/
noncomputable def out (s : Shared) (H : Hp) (L : Nat) (fp' : List Addr) (G : Hp) : Hp := fun b => if b ∈ fp' ∨ (H b = none ∧ L ≤ b ∧ ∃ o, s.heap.get? b = some o) then none else G b
section
variable {pins : List (Addr × Obj)} {G : Hp} {s' : Shared} {fp' : List Addr}
/-- it goes to sleep, or ends -/
theorem slept (W : Wk P w K mg base k stk A s H fp h) (Z : Sleep P w base N env stk σ fp pd h) {σ' : Sg} (I : Inv (gX P w K mg base N env stk A s (mix s H env.locals fp pd)) pins σ' G s') (hs : Same (mix s H env.locals fp pd) G)
    (sub : ∀ b ∈ fp, b ∈ fp') (new : ∀ b ∈ fp', (b ∈ fp ∨ s.heap.objs.size ≤ b) ∧ ∀ u, G b = some u → plain u) :
    Prom P w stk s H fp s' (out s H env.locals fp' G) ∧ (∀ b ∈ fp', out s H env.locals fp' G b = none) ∧ ∀ b u, (∀ v, u ≠ .frz v (.own 0)) → ¬ plain u → G b = some u → out s H env.locals fp' G b = some u := by
  have frz : ∀ b o, b ∉ fp → H b = none → env.locals ≤ b → s.heap.get? b = some o → G b = some (.frz o (.own 0)) ∧ s'.heap.get? b = some o := fun b o hb hn hl e => by
    have z := hs b _ (mix_frz (pd := pd) hb hn hl e)
    exact ⟨z, (I.hok b _ z).1⟩
  have nin : ∀ b u, H b = some u → b ∉ fp' := fun b u e hm => by
    rcases (new b hm).1 with z | z
    · rw [W.no b z] at e; cases e
    · exact absurd (W.e0.hok.lt e) (Nat.not_lt_of_le z)
  have nfp : ∀ b u, H b = some u → b ∉ fp := fun b u e hm => nin b u e (sub b hm)
  have sm : Same H (out s H env.locals fp' G) := fun b u e => by
    unfold out
    rw [if_neg, hs b u (mix_old (nfp b u e) e)]
    rintro (z | ⟨z, _⟩)
    · exact nin b u e z
    · rw [e] at z; cases z
  have pass : ∀ b u, (∀ v, u ≠ .frz v (.own 0)) → ¬ plain u → G b = some u → out s H env.locals fp' G b = some u := fun b u h1 h2 e => by
    unfold out
    rw [if_neg, e]
    rintro (z | ⟨z1, z2, o, z3⟩)
    · exact h2 ((new b z).2 u e)
    · by_cases hb : b ∈ fp
      · exact h2 ((new b (sub b hb)).2 u e)
      · have := (frz b o hb z1 z2 z3).1
        rw [e] at this
        exact h1 o (Option.some.inj this)
  have low : ∀ b, b < env.locals → b ∉ fp := fun b hb hm => absurd (Z.young b hm) (Nat.not_le_of_lt hb)
  refine ⟨⟨I.os, I.bare, ⟨fun b o e hn hf hx => ?_, fun b o e hn hf hx => ?_, fun b o e hn hx => ?_, fun b o e hx => ?_, fun b xs e => sm b _ e, fun b o u e => sm b _ e, fun b ps e => ⟨#[], by rw [sm b _ e]; simp⟩⟩, fun b u e => ?_, sm⟩, fun b hb => ?_, pass⟩
  · by_cases hl : env.locals ≤ b
    · exact (frz b o hx hn hl e).2
    · exact I.base.keep b o (cut_get.mpr ⟨Nat.lt_of_not_le hl, e⟩) ((mix_low hx (Nat.lt_of_not_le hl)).trans hn) hf (by intro z; exact absurd (show b ∈ ([] : List Addr) from z) (by simp))
  · have hl := Z.frs b hf
    exact I.base.slot b o (cut_get.mpr ⟨hl, e⟩) ((mix_low hx hl).trans hn) hf (by intro z; exact absurd (show b ∈ ([] : List Addr) from z) (by simp))
  · unfold out
    by_cases hl : env.locals ≤ b
    · rw [if_pos (.inr ⟨hn, hl, o, e⟩)]
    · by_cases hc : b ∈ fp' ∨ (H b = none ∧ env.locals ≤ b ∧ ∃ o, s.heap.get? b = some o)
      · rw [if_pos hc]
      · rw [if_neg hc]
        exact I.base.free b o (cut_get.mpr ⟨Nat.lt_of_not_le hl, e⟩) ((mix_low hx (Nat.lt_of_not_le hl)).trans hn) (by intro z; exact absurd (show b ∈ ([] : List Addr) from z) (by simp))
  · by_cases hl : env.locals ≤ b
    · cases q : H b with
      | none => exact ⟨o, (frz b o hx q hl e).2⟩
      | some u => exact there (I.hok b u (hs b u (mix_old hx q)))
    · exact I.base.there b o (cut_get.mpr ⟨Nat.lt_of_not_le hl, e⟩) (by intro z; exact absurd (show b ∈ ([] : List Addr) from z) (by simp))
  · have hc : ¬ (b ∈ fp' ∨ (H b = none ∧ env.locals ≤ b ∧ ∃ o, s.heap.get? b = some o)) := fun z => by
      unfold out at e
      rw [if_pos z] at e; cases e
    unfold out at e
    rw [if_neg hc] at e
    exact (I.hok b u e).stay (fun _ _ _ z => z) (fun d z => pass d _ (fun v q => by cases q) (fun q => q) z) fun d xs z => pass d _ (fun v q => by cases q) (fun q => q) z
  · unfold out
    rw [if_pos (.inl hb)]
end
end
end Tw
/-! Grd: a generator that is ready to be woken, as a walk. -/
namespace Tw
open PySem PyProof.Rows L2 GenW

/-- f: how often it may still be woken; i: the turn; fp: its own objects, as they stand at h -/
def Ready (P : Program) (w : World) (K : PySem.W.Frag) (mg : Str → Option Value) (base : Heap) (k : Nat) (stk : List Env) (J : It) : Nat → Nat → List Addr → Heap → GenState → Prop
  | 0, _, _, _, _ => False
  | f + 1, i, fp, h, gs => ∀ (A : Around) (s : Shared) (H : Hp), Wk P w K mg base k stk A s H fp h →
    (J.go i H → StepOf (model P w) A (Told (fun v gs' s' => ∃ x H' fp', Prom P w stk s H fp s' H' ∧ Mine s fp s' H' fp' ∧ RelV x v ∧ J.yld i H x H' ∧ gs'.bare = true ∧ sleeps gs' ∧ Ready P w K mg base k stk J f (i + 1) fp' s'.heap gs') fun _ => False) gs s) ∧
    (J.stop i H → StepOf (model P w) A (Told (fun _ _ _ => False) fun s' => ∃ H', Prom P w stk s H fp s' H') gs s)
section
variable {P : Program} {w : World} {K : PySem.W.Frag} {mg : Str → Option Value} {base : Heap} {k : Nat} {stk : List Env} {J : It}
theorem Ready.keep {f i : Nat} {fp : List Addr} {h h' : Heap} {gs : GenState} (r : Ready P w K mg base k stk J f i fp h gs) (kp : ∀ b ∈ fp, ∀ o, h.get? b = some o → h'.get? b = some o) : Ready P w K mg base k stk J f i fp h' gs := by
  cases f with
  | zero => exact r
  | succ f => exact fun A s H W => r A s H ⟨W.e0, W.room, W.no, fun b hb o e => W.keep b hb o (kp b hb o e)⟩
/-- the walk's state; n: how many turns there are -/
def gAt (P : Program) (w : World) (K : PySem.W.Frag) (mg : Str → Option Value) (base : Heap) (k : Nat) (stk : List Env) (J : It) (n : Nat) (a : Addr) (g : Nat) : Nat → List Addr → Heap → Array GenState → Prop := fun i fpc h G =>
  ∃ fp, fpc = a :: fp ∧ a ∉ fp ∧ h.IsGen a g ∧ (∀ b ∈ fp, ∃ o, h.get? b = some o ∧ ∀ v, o.data ≠ .cell v) ∧ ∃ gs, G[g]? = some gs ∧ (0 < i → sleeps gs) ∧ ∃ f, f + i = n + 1 ∧ Ready P w K mg base k stk J f i fp h gs
theorem runG {tg : Expr} {n : Nat} {a : Addr} {g : Nat} (hgo : ∀ i H, J.go i H → i < n) (hst : ∀ i H, J.stop i H → i ≤ n) : TurnG P w K mg base tg J a (k + 1) stk (gAt P w K mg base k stk J n a g) where
  obj := by
    rintro i fpc h G ⟨fp, rfl, _, hg, ho, _⟩ b hb
    rcases List.mem_cons.mp hb with rfl | hb
    · obtain ⟨o, nm, qn, e, _, d, _⟩ := hg
      exact ⟨o, e, fun v z => by rw [d] at z; cases z⟩
    · exact ho b hb
  keep := by
    rintro i fpc h h' G ⟨fp, rfl, hn, hg, ho, gs, e, sl, f, hf, r⟩ kp
    refine ⟨fp, rfl, hn, ?_, fun b hb => ?_, gs, e, sl, f, hf, r.keep fun b hb => kp b (List.mem_cons_of_mem _ hb)⟩
    · obtain ⟨o, nm, qn, e, z⟩ := hg
      exact ⟨o, nm, qn, kp _ List.mem_cons_self o e, z⟩
    · obtain ⟨o, e, d⟩ := ho b hb
      exact ⟨o, kp b (List.mem_cons_of_mem _ hb) o e, d⟩
  asl := by
    rintro i fpc h G ⟨fp, rfl, hn, hg, ho, gs, e, sl, z⟩
    exact ⟨g, gs, e, sl (Nat.succ_pos i), fun G' e' => ⟨fp, rfl, hn, hg, ho, gs, e', sl, z⟩⟩
  item := by
    rintro X rfl rfl rfl rfl rfl rfl hc hr i fpc pins s σ H I hf ⟨fp, rfl, hn, hg, ho, gs, e, sl, f, hff, r⟩ go
    obtain ⟨f, rfl⟩ : ∃ f', f = f' + 1 := ⟨f - 1, by have := hgo i H go; omega⟩
    have hgs : g < s.gens.size := (Array.getElem?_eq_some_iff.mp e).1
    have nfr : a ∉ frs X.stack := fun hm => (List.mem_cons.mp (I.stkSub a hm)).elim (hf a List.mem_cons_self).2.1 (hf a List.mem_cons_self).2.2.1
    have W : Wk X.prog X.w X.K X.mg X.base k X.stack X.A.in1 (s.setGen g .running) H fp s.heap := by
      obtain ⟨z1, z2, z3, z4, z5, z6, z7, z8⟩ := I.env0
      exact ⟨⟨z1, z2, z3, z4, z5, z6, z7, allBare_setGen z8 rfl⟩, hr.in1, fun b hb => (hf b (List.mem_cons_of_mem _ hb)).1, fun b hb o q => q⟩
    refine wpAny_gsz (n := g + 1) hgs (pyNextS (I.ok.hd hc) I.nolimit (by have := hr.dp; omega) hg e ((r _ _ _ W).1 go) (fun v gs' s₁ hv => ?_) fun _ z => z.elim)
    intro hsz
    have hsz : g < s₁.gens.size := by
      have q : (s₁.setGen g gs').gens.size = s₁.gens.size := setGen_size _ _ _
      omega
    obtain ⟨x, H', fp', p, mn, rx, hy, hb, hsl, rd⟩ := hv
    obtain ⟨o, nm, qn, eo, oc, od, os⟩ := id hg
    have eo' : s₁.heap.get? a = some o := p.un.keep a o eo (hf a List.mem_cons_self).1 nfr hn
    refine ⟨v, rfl, go_of (s := s₁.setGen g gs') eo' oc od (by decide) ?_⟩
    have J1 : Inv X pins σ H' (s₁.setGen g gs') := I.call' (s' := s₁.setGen g gs') (ch := fp) p.os p.un p.hok (allBare_setGen p.bare hb) fun b hb =>
      let z := (hf b (List.mem_cons_of_mem _ hb)).2; ⟨z.2.2.1, z.1, z.2.2.2.1, z.2.2.2.2⟩
    have na : a ∉ fp' := fun hm => (mn a hm).2.1.elim hn fun z => absurd (Heap.lt_size eo) (Nat.not_lt_of_le z)
    refine ⟨x, H', a :: fp', J1, rx, hy, ⟨fp', rfl, na, ⟨o, nm, qn, eo', oc, od, os⟩, fun b hb => (mn b hb).2.2, gs', setGen_at hsz, fun _ => hsl, f, by omega, rd⟩, fun b hb => ?_⟩
    rcases List.mem_cons.mp hb with rfl | hb
    · exact ⟨p.un.free _ o eo (hf _ List.mem_cons_self).1 hn, (hf _ List.mem_cons_self).2⟩
    · obtain ⟨z1, z2, _⟩ := mn b hb
      rcases z2 with z2 | z2
      · exact ⟨z1, (hf b (List.mem_cons_of_mem _ z2)).2⟩
      · exact I.fpOk z2 z1
  done := by
    rintro X rfl rfl rfl rfl rfl rfl hc hr i fpc pins s σ H I hf ⟨fp, rfl, hn, hg, ho, gs, e, sl, f, hff, r⟩ stop
    obtain ⟨f, rfl⟩ : ∃ f', f = f' + 1 := ⟨f - 1, by have := hst i H stop; omega⟩
    have W : Wk X.prog X.w X.K X.mg X.base k X.stack X.A.in1 (s.setGen g .running) H fp s.heap := by
      obtain ⟨z1, z2, z3, z4, z5, z6, z7, z8⟩ := I.env0
      exact ⟨⟨z1, z2, z3, z4, z5, z6, z7, allBare_setGen z8 rfl⟩, hr.in1, fun b hb => (hf b (List.mem_cons_of_mem _ hb)).1, fun b hb o q => q⟩
    refine pyNextS (I.ok.hd hc) I.nolimit (by have := hr.dp; omega) hg e ((r _ _ _ W).2 stop) (fun v gs' s₁ z => z.elim) fun s₁ ⟨H', p⟩ h' hk => ?_
    refine ⟨rfl, H', p.same, I.call' (s' := { s₁.setGen g .finished with heap := h' }) (ch := fp) p.os (p.un.trans (Un.kept hk)) (p.hok.kept hk) (allBare_setGen p.bare rfl) fun b hb => ?_⟩
    have z := (hf b (List.mem_cons_of_mem _ hb)).2
    exact ⟨z.2.2.1, z.1, z.2.2.2.1, z.2.2.2.2⟩
  self := by
    rintro A i fpc s Q E ⟨fp, rfl, hn, hg, _⟩ h
    exact wpAny_pyIter_gen hg h
end
end Tw
/-! Gcg: a generator def's call, and the walk over what it gives. -/
namespace Tw
open PySem PyProof.Rows L2 GenW

/-- what is asked of a call: the arguments, the heap; the walk it gives, how many turns it has -/
abbrev SpW := List V → Hp → It → Nat → Prop
/-- made: a generator that has not begun -/
def MadeG (P : Program) (w : World) (K : PySem.W.Frag) (mg : Str → Option Value) (base : Heap) (k : Nat) (stk : List Env) (J : It) (n : Nat) (s : Shared) (u : Value) (s' : Shared) : Prop :=
  ∃ (a : Addr) (g : Nat) (fpc : List Addr), u = .ref a ∧ s'.os = s.os ∧ AllBare s'.gens ∧ (∀ b o, s.heap.get? b = some o → s'.heap.get? b = some o) ∧ gAt P w K mg base k stk J n a g 0 fpc s'.heap s'.gens ∧ ∀ b ∈ fpc, s.heap.objs.size ≤ b
structure FnW (P : Program) (w : World) (K : PySem.W.Frag) (mg : Str → Option Value) (base : Heap) (k : Nat) (f : Addr) (fd : FuncData) (ps : List Str) (sp : SpW) : Prop where
  len : ∀ vs H J n, sp vs H J n → vs.length = ps.length
  run : ∀ (A : Around) (stk : List Env) (s : Shared) (H : Hp) (args : Args) (us : List Value) (vs : List V) (J : It) (n : Nat), Room (k + 1) A → Env0 P w K mg base A stk s H → BindsTo s fd args (ps.zip us) → Vals vs us → sp vs H J n →
    codeAny (model P w) A (.call (.ref f) args) (fun r s' => match r with | .ok (.ret u) => MadeG P w K mg base k stk J n s u s' | _ => False) s
/-- THE RULE: a generator def (no cells), by what one waking after another does -/
theorem gen_of {P : Program} {w : World} {K : PySem.W.Frag} {mg : Str → Option Value} {base : Heap} {k : Nat} {f : Addr} {name qual : Str} {params : Arguments} {body : List Stmt} {scope : Scope} {dV kV doc pm cdv ct oc : Value} {an od : Option Addr}
    {osl : Array (Option Value)} {N ps : List Str} {sp : SpW} (lk : K.lookup f = some ⟨oc, od, .func (PySem.W.fnOf name qual params body scope dV kV doc pm an cdv ct), osl⟩) (hcd : PySem.W.codeIn K cdv qual = true) (S : GScope N ps scope)
    (hcl : ∀ n, cellsFrom n scope.names [] = []) (hnc : ∀ y ∈ scope.names, y.2 ≠ .cell ∧ y.2 ≠ .free) (len : ∀ vs H J n, sp vs H J n → vs.length = ps.length)
    (hbody : ∀ (stk : List Env) (H : Hp) (vs : List V) (J : It) (n : Nat) (h : Heap) (L : Addr), base.objs.size ≤ L → (∀ b ∈ frs stk, b < L) → GEnv (envOfC qual scope L f cdv) N → LocOk N (envOfC qual scope L f cdv) (start N vs) h → sp vs H J n →
      Ready P w K mg base k stk J (n + 1) 0 [L] h (.fresh (.func body (envOfC qual scope L f cdv)))) :
    FnW P w K mg base k f (PySem.W.fnOf name qual params body scope dV kV doc pm an cdv ct) ps sp := by
  refine ⟨len, fun A stk s H args us vs J n hr e0 hb r hsp => ?_⟩
  have KX : K.In s.heap := e0.mod.kin.keeps fun b o e => (e0.bs b o e).1
  have lim : s.heap.NoLimit := e0.mod.nolimit.keeps fun b o e => (e0.bs b o e).1
  have hkind : ∀ y ∈ ps.zip us, scope.names.lookup y.1 = some .local ∨ (scope.names.lookup y.1 = some .cell ∧ ((cellsFrom (s.heap.objs.size + 1) scope.names []).lookup y.1).isSome = true) := fun ⟨x, v⟩ hy =>
    (S.par x (List.of_mem_zip hy).1).elim .inl fun q => .inr ⟨q, PySem.W.cellsFrom_some _ _ _ (.inl q)⟩
  refine codeAny_call_generator hr.depth (KX _ _ lk) rfl S.co S.gen rfl (PySem.W.codeRec_of KX hcd) (hb _ _ _ _ (wpAny_newFunctionEnv_cells S.kind hkind fun env he s1 x => ?_))
  subst he
  have I1 := inv_startG (E := fun _ _ _ => False) S hr.hd e0 (len _ _ _ _ hsp) r x
  obtain ⟨h1, tk, es1, hk1⟩ := x.done
  have kp1 : ∀ b o, s.heap.get? b = some o → s1.heap.get? b = some o := x.toInCall.keep
  have lt1 : s.heap.objs.size < s1.heap.objs.size := x.toInCall.ns.lt
  refine ⟨lim.keeps kp1, ?_⟩
  have main : ∀ (go : Obj) (nm qn : Value) (tk2 : Nat), go.cls = .type "generator" → go.data = .fields #[.int s1.gens.size 0, nm, qn] → go.slots = #[] → (∀ h : Heap, (h.push go).get? h.objs.size = some go) →
      MadeG P w K mg base k stk J n s (.ref s1.heap.objs.size) { s1 with gens := s1.gens.push (.fresh (.func body (envOfC qual scope s.heap.objs.size f cdv))), toks := tk2, heap := s1.heap.push go } := by
    intro go nm qn tk2 hgc hgd hgs hgp
    have kp2 : ∀ b o, s1.heap.get? b = some o → (s1.heap.push go).get? b = some o := fun b o e => Heap.get?_push_of_some _ e
    obtain ⟨m, hn, hx⟩ := I1.loc
    have hL : s.heap.objs.size ≠ s1.heap.objs.size := Nat.ne_of_lt lt1
    refine ⟨_, _, _, rfl, by rw [es1], AllBare.push (by rw [es1]; exact e0.bare) rfl, fun b o e => kp2 b o (kp1 b o e), ⟨[s.heap.objs.size], rfl, fun z => hL (List.mem_singleton.mp z).symm, ⟨go, nm, qn, hgp _, hgc, hgd, hgs⟩, fun b hb => ?_, _, Array.getElem?_push_size .., fun z => absurd z (Nat.lt_irrefl 0), n + 1, rfl, ?_⟩, fun b hb => ?_⟩
    · rw [List.mem_singleton.mp hb]
      obtain ⟨o, es, ep, ho, hd, _⟩ := hn
      exact ⟨o, kp2 _ _ ho, fun v z => by rw [hd] at z; cases z⟩
    · refine hbody stk H vs J n _ s.heap.objs.size e0.bsz (fun b hb => ?_) ⟨S.kind, rfl, rfl, hcl _, rfl, fun y => ⟨fun z => (hnc _ (PySem.mem_of_lookup z)).1 rfl, fun z => (hnc _ (PySem.mem_of_lookup z)).2 rfl⟩⟩ ⟨I1.len, m, ?_, fun i y v e1 e2 e3 => ?_⟩ hsp
      · obtain ⟨_, o, ho, _⟩ := e0.funs.mem hb
        exact Heap.lt_size ho
      · obtain ⟨o, es, ep, ho, q⟩ := hn
        exact ⟨o, es, ep, kp2 _ _ ho, q⟩
      · obtain ⟨u, ru, l⟩ := hx i y v e1 e2 e3
        refine ⟨u, ru, ?_⟩
        rcases l with l | ⟨_, c, hc, _⟩
        · exact .inl l
        · exact absurd (show (cellsFrom (s.heap.objs.size + 1) scope.names []).lookup y = some c from hc) (by rw [hcl]; simp)
    · rcases List.mem_cons.mp hb with rfl | hb
      · exact Nat.le_of_lt lt1
      · rw [List.mem_singleton.mp hb]; exact Nat.le_refl _
  exact main _ _ _ _ rfl rfl rfl fun h => Heap.get?_push_size _ rfl

section
variable {X : Cx} {k : Nat} {f C : Addr} {fd : FuncData} {ps : List Str} {sp : SpW} {dvs : List V} {ds : List Value} {m : Str} {tg : Expr}
/-- what comes of a call, as a walk -/
theorem made_walk {pins : List (Addr × Obj)} {σ : Sg} {H : Hp} {s s' : Shared} {J : It} {n : Nat} {u : Value} {R : It → Hp → Prop} {E : Value → Shared → Prop} (I : Inv X pins σ H s) (hgo : ∀ i H, J.go i H → i < n) (hst : ∀ i H, J.stop i H → i ≤ n)
    (G : MadeG X.prog X.w X.K X.mg X.base k X.stack J n s u s') (hR : R J H) : Inv X pins σ H s' ∧ wpAny (model X.prog X.w) X.A (pyIter u) (PIEG X (k + 1) pins σ tg R) E s' := by
  obtain ⟨a, g, fpc, rfl, os, hb, kp, ga, yg⟩ := G
  have I1 : Inv X pins σ H s' := I.call' (ch := []) os (Un.kept kp) (I.hok.kept kp) hb fun b z => by simp at z
  have T := runG (P := X.prog) (w := X.w) (K := X.K) (mg := X.mg) (base := X.base) (k := k) (stk := X.stack) (J := J) (tg := tg) (n := n) (a := a) (g := g) hgo hst
  refine ⟨I1, T.self X.A 0 fpc s' _ _ ga ⟨a, fpc, _, J, H, rfl, I1, T, ga, fun b hb => I.fpOk (yg b hb) (I.hok.fresh (yg b hb)), hR⟩⟩
/-- the walk over o.m() -/
def tWMeth (C : Addr) (m : Str) (sp : SpW) (dvs : List V) (ta : TE) : TI := fun σ H R => ta σ H fun x H1 => ∃ a dx fs J n, x = .ref a ∧ H1 a = some (.ins C dx fs) ∧ fs.lookup m = none ∧ (∀ i H, J.go i H → i < n) ∧ (∀ i H, J.stop i H → i ≤ n) ∧ sp (x :: dvs) H1 J n ∧ R J H1
theorem pig_meth0 {o : Expr} {ta : TE} {pl : Sem Bool} {apos pos : Pos} (he : PE X o ta) (c : Cls X.K C) (hm : Meth X.K C m f) (F : FnW X.prog X.w X.K X.mg X.base k f fd ps sp) (hr : Room (k + 1) X.A) (hb : Binds X.K fd ps ds) (hd : Vals dvs ds)
    (ht : eval (.Call (.Attribute o m apos) [] [] pos) X.env = (do
      let ov ← eval o X.env
      standAt apos.atName
      let (f, first) ← holding [ov] (getMethod ov m pl)
      callWith pos f first (backTo pos (starEach [] X.env)) (backToKw pos (keywordEach [] X.env))) := by rfl) :
    PIG X (k + 1) tg (.Call (.Attribute o m apos) [] [] pos) (tWMeth C m sp dvs ta) := by
  refine ⟨fun pins s σ H R I h => PySem.W.methodCall_KW (pl := pl) (thn (he.run pins s σ H _ I h) fun u s1 ⟨x, H1, I1, rx, a, dx, fs, J, n, ex, ea, l, hgo, hst, q, hR⟩ => ?_) ht⟩
  subst ex
  obtain rfl : u = Value.ref a := rx
  refine getmeth_ok I1 ea c hm l (PySem.W.callWith_K0 (first := [.ref a]) I1.kIn hm.kp ?_)
  have r1 : Vals [V.ref a] [Value.ref a] := .cons rfl .nil
  have r2 : Vals ([V.ref a] ++ dvs) ([Value.ref a] ++ ds) := r1.append hd
  have hl : ([Value.ref a] ++ ds).length = ps.length := r2.length ▸ F.len _ _ _ _ q
  refine wpAny_call (codeAny_mono (F.run X.A X.stack s1 H1 ⟨[.ref a], []⟩ ([.ref a] ++ ds) ([.ref a] ++ dvs) J n hr I1.env0 (hb s1 [.ref a] I1.kIn hl) r2 q) fun r s' hq => ?_)
  cases r with
  | error e => exact hq.elim
  | ok fl =>
    cases fl with
    | ret u => exact (made_walk I1 hgo hst hq hR).2
    | _ => exact hq.elim
end
end Tw
/-! Ggw: what is gone from the heap does not come back. -/
namespace Tw
open PySem PyProof.Rows L2 GenW
structure Grow (h h' : Heap) : Prop where
  size : h.objs.size ≤ h'.objs.size
  gone : ∀ b, b < h.objs.size → h.get? b = none → h'.get? b = none
theorem Grow.refl (h : Heap) : Grow h h := ⟨Nat.le_refl _, fun _ _ e => e⟩
theorem Grow.trans {a b c : Heap} (x : Grow a b) (y : Grow b c) : Grow a c := ⟨Nat.le_trans x.size y.size, fun d hd e => y.gone d (Nat.lt_of_lt_of_le hd x.size) (x.gone d hd e)⟩
theorem Grow.push (h : Heap) (o : Obj) : Grow h (h.push o) := by
  refine ⟨by rw [Heap.size_push]; exact Nat.le_succ _, fun b hb e => ?_⟩
  obtain ⟨objs, l⟩ := h
  have hb : b < objs.size := hb
  show (match (objs.push o)[b]? with | some ⟨_, _, .freed, _⟩ => none | o => o) = none
  rw [Array.getElem?_push_lt hb, ← Array.getElem?_eq_getElem hb]
  exact e
theorem Grow.update {h : Heap} {a : Addr} (f : Obj → Obj) (ha : (h.get? a).isSome) : Grow h (h.update a f) := by
  refine ⟨?_, fun b hb e => ?_⟩
  · obtain ⟨objs, l⟩ := h
    show objs.size ≤ (objs.modify a f).size
    rw [Array.size_modify]; exact Nat.le_refl _
  · have hne : a ≠ b := fun z => by rw [z, e] at ha; cases ha
    obtain ⟨objs, l⟩ := h
    show (match (objs.modify a f)[b]? with | some ⟨_, _, .freed, _⟩ => none | o => o) = none
    rw [Array.getElem?_modify, if_neg hne]
    exact e
theorem runs_grow {M : Model} {Γ : Ctx} {p : Pos} {t : Sem PySem.Fin} {fs : List Frame} {s s' : Shared} {e : End} (h : Runs M Γ p t fs s e s') : Grow s.heap s'.heap := by
  induction h <;> first
    | exact Grow.refl _
    | assumption
    | exact (Grow.update _ (by assumption)).trans (by assumption)
    | exact (Grow.push _ _).trans (by assumption)
    | exact Grow.trans (by assumption) (by assumption)
theorem stp_grow {M : Model} {A : Around} {T : End → Shared → Prop} {c : Code} {t : Sem PySem.Fin} {fs : List Frame} {s : Shared} (h : Step M A (fun e s' => Grow s.heap s'.heap → T e s') c t fs s) : Step M A T c t fs s := by
  rintro Γ p rfl hΓ
  obtain ⟨e, s', hr, he⟩ := h Γ p rfl hΓ
  exact ⟨e, s', hr, he (runs_grow hr)⟩
end Tw
/-! Gfy: a generator whose body ends with «for target in iter: yield (e, ..)». -/
namespace Tw
open PySem PyProof.Rows L2 GenW

section
variable {P : Program} {w : World} {K : PySem.W.Frag} {mg : Str → Option Value} {base : Heap} {k : Nat} {stk : List Env} {A : Around} {s s' : Shared} {H pd G : Hp} {fp : List Addr} {h : Heap} {N : List Str} {env : Env} {σ σ' : Sg} {pins : List (Addr × Obj)}
theorem stp_mono {M : Model} {T T' : End → Shared → Prop} {c : Code} {t : Sem PySem.Fin} {fs : List Frame} (h : Step M A T c t fs s) (hT : ∀ e s', T e s' → T' e s') : Step M A T' c t fs s := by
  rintro Γ p rfl hΓ
  obtain ⟨e, s', hr, he⟩ := h Γ p rfl hΓ
  exact ⟨e, s', hr, hT e s' he⟩
/-- what was no thing of the waking is younger than it -/
theorem newer (W : Wk P w K mg base k stk A s H fp h) (Z : Sleep P w base N env stk σ fp pd h) (I : Inv (gX P w K mg base N env stk A s (mix s H env.locals fp pd)) pins σ' G s') (sm : Same (mix s H env.locals fp pd) G) (gr : Grow s.heap s'.heap) {b : Addr} {o : Obj}
    (hb : b ∉ fp) (hn : mix s H env.locals fp pd b = none) (e : s'.heap.get? b = some o) (hG : (G b = none ∧ env.locals ≤ b) ∨ ∃ u, G b = some u ∧ plain u) : s.heap.objs.size ≤ b := by
  refine Nat.le_of_not_lt fun hlt => ?_
  have hH := mix_none hb hn
  cases q : s.heap.get? b with
  | none => rw [gr.gone b hlt q] at e; cases e
  | some o' =>
    by_cases hl : env.locals ≤ b
    · rw [mix_frz hb hH hl q] at hn
      cases hn
    · rcases hG with ⟨_, z⟩ | ⟨u, z, _⟩
      · exact hl z
      · have := I.base.free b o' (cut_get.mpr ⟨Nat.lt_of_not_le hl, q⟩) hn (by intro y; exact absurd (show b ∈ ([] : List Addr) from y) (by simp))
        rw [z] at this; cases this
end
/-- the consumer's walk over tuples: Pre is asked of the first turn, Rt tells the i-th tuple -/
def Jt (n : Nat) (Pre : Hp → Prop) (Rt : Nat → List V → Prop) : It :=
  ⟨fun i H => i < n ∧ (i = 0 → Pre H), fun i H x H' => ∃ T xs, x = .ref T ∧ H T = none ∧ Same H H' ∧ H' T = some (.tup xs) ∧ Rt i xs, fun i H => i = n ∧ (i = 0 → Pre H)⟩
section
variable {P : Program} {w : World} {K : PySem.W.Frag} {mg : Str → Option Value} {base : Heap} {k : Nat} {stk : List Env} {N : List Str} {env : Env} {n : Nat} {Pre : Hp → Prop} {Rt : Nat → List V → Prop} {tgt e : Expr} {yp yq : Pos} {g : TG} {te : TE}
/-- the loop's own: its iterator, what is known of the names and the data at each turn -/
structure Loop (P : Program) (w : World) (K : PySem.W.Frag) (mg : Str → Option Value) (base : Heap) (k : Nat) (stk : List Env) (N : List Str) (env : Env) (n : Nat) (Rt : Nat → List V → Prop) (tgt e : Expr) (g : TG) (te : TE) (J : It) (fpT : List Addr) (it : Addr) (tn : Nat → Heap → Prop) (dl : List Addr)
    (Sd : Nat → Sg → Hp → Prop) : Prop where
  turn : Turn P w K tgt J fpT it tn
  hg : ∀ A s M, PG (gX P w K mg base N env stk A s M) tgt g
  he : ∀ A s M, Room k A → PE (gX P w K mg base N env stk A s M) e te
  data : ∀ i σ G, Sd i σ G → ∀ b ∈ dl, ∃ u, G b = some u ∧ plain u
  only : ∀ i σ G G', Sd i σ G → (∀ b ∈ dl, G' b = G b) → Sd i σ G'
  step : ∀ i σ G, i < n → Sd i σ G → J.go i G ∧ ∀ x G1, J.yld i G x G1 → g x σ G1 fun σ2 G2 => te σ2 G2 fun y G3 => Sd (i + 1) σ2 G3 ∧ Same G G3 ∧ ∃ T xs, y = .ref T ∧ G T = none ∧ G3 T = some (.tup xs) ∧ Rt i xs
  stop : ∀ σ G, Sd n σ G → J.stop n G
  yldS : ∀ i G x G1, J.yld i G x G1 → Same G G1
/-- what stands while the generator sleeps ahead of turn i -/
structure Stand (P : Program) (w : World) (base : Heap) (stk : List Env) (N : List Str) (env : Env) (fpT : List Addr) (tn : Nat → Heap → Prop) (dl : List Addr) (Sd : Nat → Sg → Hp → Prop) (i : Nat) (σ : Sg) (fp : List Addr) (pd : Hp) (h : Heap) : Prop where
  Z : Sleep P w base N env stk σ fp pd h
  sd : Sd i σ pd
  tn : tn i h
  ft : ∀ b ∈ fpT, b ∈ fp ∧ pd b = none ∧ b ≠ env.locals ∧ b ∉ frs stk
  fd : ∀ b ∈ dl, b ∈ fp
/-- what a waking ends with -/
def TB (P : Program) (w : World) (K : PySem.W.Frag) (mg : Str → Option Value) (base : Heap) (k : Nat) (stk : List Env) (n : Nat) (Pre : Hp → Prop) (Rt : Nat → List V → Prop) (f i : Nat) (s : Shared) (H : Hp) (fp : List Addr) : End → Shared → Prop :=
  Told (fun v gs' s' => i < n ∧ ∃ x H' fp', Prom P w stk s H fp s' H' ∧ Mine s fp s' H' fp' ∧ RelV x v ∧ (Jt n Pre Rt).yld i H x H' ∧ gs'.bare = true ∧ sleeps gs' ∧ Ready P w K mg base k stk (Jt n Pre Rt) f (i + 1) fp' s'.heap gs')
    fun s' => i = n ∧ ∃ H', Prom P w stk s H fp s' H'
/-- the frame that the loop comes back to -/
abbrev lpFrame (env : Env) (body : List Stmt) (K0 : Flow → Sem PySem.Fin) (J0 : Value → Sem PySem.Fin) (p : Pos) : Frame := .ret (fromLoop env K0 J0 id id) none false [] (.func body env) p []
theorem ready_of {f i : Nat} {fp : List Addr} {h : Heap} {gs : GenState} (hh : ∀ A s H, Wk P w K mg base k stk A s H fp h → (i = 0 → Pre H) → StepOf (model P w) A (TB P w K mg base k stk n Pre Rt f i s H fp) gs s) :
    Ready P w K mg base k stk (Jt n Pre Rt) (f + 1) i fp h gs := by
  have mono : ∀ {A : Around} {T T' : End → Shared → Prop} {s : Shared}, StepOf (model P w) A T gs s → (∀ e s', T e s' → T' e s') → StepOf (model P w) A T' gs s := fun {A T T' s} h hT => by
    cases gs with
    | fresh c => exact stp_mono h hT
    | suspended k₀ l₀ c₀ p₀ fs₀ cl => exact stp_mono h hT
    | _ => exact h
  intro A s H W
  refine ⟨fun go => mono (hh A s H W go.2) fun e s' z => ?_, fun st => mono (hh A s H W st.2) fun e s' z => ?_⟩
  · cases e with
    | susp v g l kk c p fs => exact ⟨z.1, z.2.2⟩
    | ret r =>
      cases r with
      | error x => exact z.elim
      | ok fl =>
        cases fl with
        | ret v =>
          cases v with
          | none =>
            have hz : i = n := z.1
            have := go.1
            omega
          | _ => exact z.elim
        | _ => exact z.elim
  · cases e with
    | susp v g l kk c p fs =>
      have hz : i < n := z.2.1
      have := st.1
      omega
    | ret r =>
      cases r with
      | error x => exact z.elim
      | ok fl =>
        cases fl with
        | ret v =>
          cases v with
          | none => exact z.2
          | _ => exact z.elim
        | _ => exact z.elim
variable {J : It} {fpT : List Addr} {it : Addr} {tn : Nat → Heap → Prop} {dl : List Addr} {Sd : Nat → Sg → Hp → Prop} {body : List Stmt}
/-- the loop runs on, ahead of turn i; the waking that this belongs to began at s, H with fp, pd -/
theorem loop_on (Lp : Loop P w K mg base k stk N env n Rt tgt e g te J fpT it tn dl Sd) (hco : env.scope.isCoroutine = false) (hin : interactive env = false) {K0 : Flow → Sem PySem.Fin} {J0 : Value → Sem PySem.Fin} (hK0 : K0 .next = leafOf (.ok (.ret .none))) {pp : Pos} {f i : Nat}
    (next : i < n → ∀ σ fp pd h k₀ l p cl, Stand P w base stk N env fpT tn dl Sd (i + 1) σ fp pd h → (∀ b ∈ fp, b ∈ env.locals :: (fpT ++ dl)) →
      (∀ A' T' s'', Step (model P w) A' T' (.forLoop tgt (.ref it) [.Expr (.Yield (some e) yp) yq] [] env) (.pure (.again (.forLoop tgt (.ref it) [.Expr (.Yield (some e) yp) yq] [] env))) [lpFrame env body K0 J0 pp] s'' → Step (model P w) A' T' (.forLoop tgt (.ref it) [.Expr (.Yield (some e) yp) yq] [] env) (k₀ (.send .none)) [lpFrame env body K0 J0 pp] s'') →
      Ready P w K mg base k stk (Jt n Pre Rt) f (i + 1) fp h (.suspended k₀ l (.forLoop tgt (.ref it) [.Expr (.Yield (some e) yp) yq] [] env) p [lpFrame env body K0 J0 pp] cl))
    {A : Around} {s : Shared} {H pd : Hp} {fp : List Addr} {h : Heap} {σ0 : Sg} (W : Wk P w K mg base k stk A s H fp h) (Z : Sleep P w base N env stk σ0 fp pd h) (hi : i ≤ n)
    {s1 : Shared} {σ : Sg} {G : Hp} (I : Inv (gX P w K mg base N env stk A s (mix s H env.locals fp pd)) [] σ G s1) (sm : Same (mix s H env.locals fp pd) G) (sd : Sd i σ G) (ht : tn i s1.heap) (hf : ∀ b ∈ fpT, FpOk (gX P w K mg base N env stk A s (mix s H env.locals fp pd)) [] G b)
    (hdl : ∀ b ∈ dl, b ∈ fp ∨ mix s H env.locals fp pd b = none) (hfp : ∀ b ∈ fp, b ∈ env.locals :: (fpT ++ dl)) :
    Step (model P w) A (fun e s' => Grow s.heap s'.heap → TB P w K mg base k stk n Pre Rt f i s H fp e s') (.forLoop tgt (.ref it) [.Expr (.Yield (some e) yp) yq] [] env) ((model P w).den (.forLoop tgt (.ref it) [.Expr (.Yield (some e) yp) yq] [] env)) [lpFrame env body K0 J0 pp] s1 := by
  have hov : A.over (.forLoop tgt (.ref it) [.Expr (.Yield (some e) yp) yq] [] env) [lpFrame env body K0 J0 pp] = (gX P w K mg base N env stk A s (mix s H env.locals fp pd)).A := (over_loop rfl rfl).trans over_func
  have hL : env.locals ≤ s.heap.objs.size := by
    obtain ⟨_, m, ⟨o, _, _, ho, _⟩, _⟩ := Z.loc
    exact Nat.le_of_lt (Heap.lt_size (W.keep _ Z.here _ ho))
  refine stp_forLoop ?_
  rw [hov]
  by_cases hlt : i < n
  · obtain ⟨go, st⟩ := Lp.step i σ G hlt sd
    refine wpAny_mono (Lp.turn.item (gX P w K mg base N env stk A s (mix s H env.locals fp pd)) rfl rfl rfl rfl i [] s1 σ G Nx I hf ht go) (fun r s2 ⟨u, hr, h2⟩ => ?_) fun _ _ z => z
    subst hr
    refine wpAny_mono h2 (fun _ s3 ⟨x, G3, I3, r3, y3, t3, n3⟩ => ?_) fun _ _ z => z
    have J3 := I3.pinned (fun b hb => ⟨n3 b hb, (hf b hb).2⟩) (Lp.turn.obj _ _ t3)
    refine wpAny_mono ((Lp.hg A s _).run _ s3 σ G3 x u _ J3 r3 (st x G3 y3)) (fun _ s4 ⟨σ4, G4, I4, q4⟩ => ?_) fun _ _ z => z
    intro J1
    refine stp_cons (stp_Yield rfl rfl hco hin ?_)
    rw [hov]
    refine wpAny_mono ((Lp.he A s _ W.room).run _ s4 σ4 G4 _ I4 q4) (fun v s5 ⟨y, G5, I5, r5, sd5, sm5, T, xs, hy, hT, gT, hR⟩ => ?_) fun _ _ z => z
    intro l kk p hk
    have pinT : ∀ b ∈ fpT, ∀ o, s3.heap.get? b = some o → s5.heap.get? b = some o ∧ G5 b = none := fun b hb o eo =>
      let z := I5.pin (b, o) (List.mem_append_right _ (List.mem_append_right _ (mem_pinsAt hb eo)))
      ⟨z.1, z.2.1⟩
    have noT : ∀ b ∈ fpT, G5 b = none := fun b hb => by
      obtain ⟨o, eo, _⟩ := Lp.turn.obj _ _ t3 b hb
      exact (pinT b hb o eo).2
    have dat := Lp.data (i + 1) σ4 G5 sd5
    intro hgr
    have s05 := sm.trans sm5
    have newT : ∀ b ∈ fpT, (b ∈ fp ∨ s.heap.objs.size ≤ b) ∧ env.locals ≤ b := fun b hb => by
      obtain ⟨o, eo, _⟩ := Lp.turn.obj _ _ t3 b hb
      obtain ⟨z0, z1, z2, z3, _⟩ := hf b hb
      have z3 : env.locals ≤ b := z3.elim (fun y => absurd (show b ∈ ([] : List Addr) from y) (by simp)) fun y => by
        have : (cut s env.locals).heap.objs.size ≤ b := y
        rwa [cut_size hL] at this
      by_cases hm : b ∈ fp
      · exact ⟨.inl hm, z3⟩
      · exact ⟨.inr (newer W Z I5 s05 hgr hm (sm.free z0) (pinT b hb o eo).1 (.inl ⟨noT b hb, z3⟩)), z3⟩
    have newD : ∀ b ∈ dl, (b ∈ fp ∨ s.heap.objs.size ≤ b) ∧ env.locals ≤ b := fun b hb => by
      obtain ⟨u, e1, e2⟩ := dat b hb
      obtain ⟨o, eo⟩ := there (I5.hok b u e1)
      rcases hdl b hb with z | z
      · exact ⟨.inl z, Z.young b z⟩
      · by_cases hm : b ∈ fp
        · exact ⟨.inl hm, Z.young b hm⟩
        · have := newer W Z I5 s05 hgr hm z eo (.inr ⟨u, e1, e2⟩)
          exact ⟨.inr this, Nat.le_trans hL this⟩
    have nw : ∀ b ∈ env.locals :: (fpT ++ dl), (b ∈ fp ∨ s.heap.objs.size ≤ b) ∧ ∀ u, G5 b = some u → plain u := fun b hb => by
      rcases List.mem_cons.mp hb with rfl | hb
      · exact ⟨.inl Z.here, fun u z => by rw [show G5 env.locals = none from I5.free] at z; cases z⟩
      · rcases List.mem_append.mp hb with hb | hb
        · exact ⟨(newT b hb).1, fun u z => by rw [noT b hb] at z; cases z⟩
        · obtain ⟨u, e1, e2⟩ := dat b hb
          exact ⟨(newD b hb).1, fun v z => by rw [e1] at z; cases z; exact e2⟩
    obtain ⟨pr, ow, pass⟩ := slept W Z I5 s05 hfp nw
    have hT0 : T ∉ fp := fun hm => (nw T (hfp T hm)).2 _ gT
    have mine : Mine s fp s5 (out s H env.locals (env.locals :: (fpT ++ dl)) G5) (env.locals :: (fpT ++ dl)) := fun b hb => by
      refine ⟨ow b hb, (nw b hb).1, ?_⟩
      rcases List.mem_cons.mp hb with rfl | hb
      · obtain ⟨m, ⟨o, es, ep, ho, hd, _⟩, _⟩ := I5.loc
        exact ⟨o, ho, fun v z => by rw [hd] at z; cases z⟩
      · rcases List.mem_append.mp hb with hb | hb
        · obtain ⟨o, eo, d⟩ := Lp.turn.obj _ _ t3 b hb
          exact ⟨o, (pinT b hb o eo).1, d⟩
        · obtain ⟨u, e1, e2⟩ := dat b hb
          exact plain_obj (I5.hok b u e1) e2
    refine ⟨rfl, hlt, y, _, env.locals :: (fpT ++ dl), pr, mine, r5, ⟨T, xs, hy, mix_none hT0 (sm.free hT), pr.same, pass T _ (fun v z => by cases z) (fun z => z) gT, hR⟩, rfl, trivial, ?_⟩
    have nd : ∀ b, G5 b = none → b ∉ dl := fun b z hm => by
      obtain ⟨u, e1, _⟩ := dat b hm
      rw [z] at e1; cases e1
    let pd' : Hp := fun b => if b ∈ dl then G5 b else none
    have pdy : ∀ b, b ∈ dl → pd' b = G5 b := fun b hb => if_pos hb
    have pdn : ∀ b, b ∉ dl → pd' b = none := fun b hb => if_neg hb
    refine next hlt σ4 (env.locals :: (fpT ++ dl)) pd' s5.heap kk l p _ ⟨⟨Z.genv, Z.old, Z.frs, List.mem_cons_self, fun b hb => ?_, ⟨I5.len, I5.loc⟩, pdn _ (nd _ I5.free), fun b u e => ?_⟩, Lp.only (i + 1) σ4 G5 pd' sd5 pdy, Lp.turn.keep _ _ _ t3 fun b hb o eo => (pinT b hb o eo).1, fun b hb => ⟨List.mem_cons_of_mem _ (List.mem_append_left _ hb), pdn _ (nd _ (noT b hb)), (hf b hb).2.1, (hf b hb).2.2.1⟩, fun b hb => List.mem_cons_of_mem _ (List.mem_append_right _ hb)⟩ (fun b hb => hb) fun A' T' s'' z => hk A' T' s'' z
    · rcases List.mem_cons.mp hb with rfl | hb
      · exact Nat.le_refl _
      · rcases List.mem_append.mp hb with hb | hb
        · exact (newT b hb).2
        · exact (newD b hb).2
    · by_cases hb : b ∈ dl
      · have e' := (pdy b hb).symm.trans e
        obtain ⟨u', e1, e2⟩ := dat b hb
        rw [e'] at e1
        cases e1
        exact ⟨List.mem_cons_of_mem _ (List.mem_append_right _ hb), e2, plain_stay (I5.hok b u e') e2 fun o z => z⟩
      · rw [pdn b hb] at e; cases e
  · have hin' : i = n := by omega
    subst hin'
    refine wpAny_mono (Lp.turn.done (gX P w K mg base N env stk A s (mix s H env.locals fp pd)) rfl rfl rfl rfl i [] s1 σ G Nx I hf ht (Lp.stop σ G sd)) (fun r s2 ⟨hr, I2⟩ => ?_) fun _ _ z => z
    subst hr
    refine stp_leaf (.ok .next) ?_
    show Step _ _ _ _ (K0 .next) [] s2
    rw [hK0]
    refine stp_end (.ok (.ret .none)) fun _ => ⟨rfl, _, (slept W Z I2 sm (fun b hb => hb) fun b hb => ⟨.inl hb, fun u z => ?_⟩).1⟩
    rcases List.mem_cons.mp (hfp b hb) with rfl | hb
    · rw [show G env.locals = none from I2.free] at z; cases z
    · rcases List.mem_append.mp hb with hb | hb
      · rw [(hf b hb).1] at z; cases z
      · obtain ⟨v, e1, e2⟩ := Lp.data i σ G sd b hb
        rw [e1] at z; cases z; exact e2
/-- asleep ahead of turn i -/
theorem ready_on (Lp : Loop P w K mg base k stk N env n Rt tgt e g te J fpT it tn dl Sd) (hco : env.scope.isCoroutine = false) (hin : interactive env = false) {K0 : Flow → Sem PySem.Fin} {J0 : Value → Sem PySem.Fin} (hK0 : K0 .next = leafOf (.ok (.ret .none))) {pp : Pos} :
    ∀ (f i : Nat), f + i = n + 1 → 0 < i → i ≤ n → ∀ σ fp pd h k₀ l p cl, Stand P w base stk N env fpT tn dl Sd i σ fp pd h → (∀ b ∈ fp, b ∈ env.locals :: (fpT ++ dl)) →
      (∀ A' T' s'', Step (model P w) A' T' (.forLoop tgt (.ref it) [.Expr (.Yield (some e) yp) yq] [] env) (.pure (.again (.forLoop tgt (.ref it) [.Expr (.Yield (some e) yp) yq] [] env))) [lpFrame env body K0 J0 pp] s'' → Step (model P w) A' T' (.forLoop tgt (.ref it) [.Expr (.Yield (some e) yp) yq] [] env) (k₀ (.send .none)) [lpFrame env body K0 J0 pp] s'') →
      Ready P w K mg base k stk (Jt n Pre Rt) f i fp h (.suspended k₀ l (.forLoop tgt (.ref it) [.Expr (.Yield (some e) yp) yq] [] env) p [lpFrame env body K0 J0 pp] cl) := by
  intro f
  induction f with
  | zero => intro i h1 _ h3; omega
  | succ f ih =>
    intro i h1 h2 h3 σ fp pd h k₀ l p cl S hfp hk
    refine ready_of fun A s H W _ => ?_
    show Step (model P w) A _ (.forLoop tgt (.ref it) [.Expr (.Yield (some e) yp) yq] [] env) (k₀ (.send .none)) [lpFrame env body K0 J0 pp] s
    have hL : env.locals ≤ s.heap.objs.size := by
      obtain ⟨_, m, ⟨o, _, _, ho, _⟩, _⟩ := S.Z.loc
      exact Nat.le_of_lt (Heap.lt_size (W.keep _ S.Z.here _ ho))
    refine stp_grow (hk _ _ _ (stp_again rfl (loop_on Lp hco hin hK0 (fun hlt σ' fp' pd' h' k' l' p' cl' S' hf' hk' => ih (i + 1) (by omega) (Nat.succ_pos i) hlt σ' fp' pd' h' k' l' p' cl' S' hf' hk') W S.Z h3 (wake W S.Z) (Same.refl _) (Lp.only i σ pd _ S.sd fun b hb => mix_own (S.fd b hb))
      (Lp.turn.keep _ _ _ S.tn fun b hb o eo => W.keep b (S.ft b hb).1 o eo) (fun b hb => ?_) (fun b hb => .inl (S.fd b hb)) hfp)))
    obtain ⟨z1, z2, z3, z4⟩ := S.ft b hb
    exact ⟨(mix_own z1).trans z2, z3, z4, .inr (Nat.le_trans (Nat.le_of_eq (cut_size hL)) (S.Z.young b z1)), fun x c y => (by
      have y : env.cells.lookup x = some c := y
      rw [S.Z.genv.cells] at y
      cases y), fun p hp => absurd (show p ∈ ([] : List (Addr × Obj)) ++ [] from hp) (by simp)⟩
/-- a loop's reading, but for its iterator -/
structure LoopS (n : Nat) (Rt : Nat → List V → Prop) (g : TG) (te : TE) (J : It) (dl : List Addr) (Sd : Nat → Sg → Hp → Prop) : Prop where
  data : ∀ i σ G, Sd i σ G → ∀ b ∈ dl, ∃ u, G b = some u ∧ plain u
  only : ∀ i σ G G', Sd i σ G → (∀ b ∈ dl, G' b = G b) → Sd i σ G'
  step : ∀ i σ G, i < n → Sd i σ G → J.go i G ∧ ∀ x G1, J.yld i G x G1 → g x σ G1 fun σ2 G2 => te σ2 G2 fun y G3 => Sd (i + 1) σ2 G3 ∧ Same G G3 ∧ ∃ T xs, y = .ref T ∧ G T = none ∧ G3 T = some (.tup xs) ∧ Rt i xs
  stop : ∀ σ G, Sd n σ G → J.stop n G
  yldS : ∀ i G x G1, J.yld i G x G1 → Same G G1
/-- not begun: a statement, then the loop -/
theorem ready_first {st1 : Stmt} {t1 : TS} {iter : Expr} {wi : TI} {pos : Pos} {h : Heap} {σ0 : Sg} (h1 : ∀ A s M, Room k A → PS (gX P w K mg base N env stk A s M) st1 t1) (hi : ∀ A s M, Room k A → PI (gX P w K mg base N env stk A s M) tgt iter wi)
    (hg : ∀ A s M, PG (gX P w K mg base N env stk A s M) tgt g) (he : ∀ A s M, Room k A → PE (gX P w K mg base N env stk A s M) e te) (hs : ∀ x, foldedSetIterable iter env x = pure x) (hco : env.scope.isCoroutine = false) (hin : interactive env = false)
    (Z : Sleep P w base N env stk σ0 [env.locals] (fun _ => none) h)
    (hpre : ∀ H M, Pre H → Same H M → t1 { nx := fun σ1 G1 => wi σ1 G1 fun J G2 => Same M G2 ∧ ∃ dl Sd, LoopS n Rt g te J dl Sd ∧ Sd 0 σ1 G2 ∧ ∀ b ∈ dl, M b = none, rt := fun _ _ => False } σ0 M) :
    Ready P w K mg base k stk (Jt n Pre Rt) (n + 1) 0 [env.locals] h (.fresh (.func [st1, .For tgt iter [.Expr (.Yield (some e) yp) yq] [] pos] env)) := by
  refine ready_of fun A s H W hp => ?_
  have hov : A.over (.func [st1, .For tgt iter [.Expr (.Yield (some e) yp) yq] [] pos] env) [] = (gX P w K mg base N env stk A s (mix s H env.locals [env.locals] fun _ => none)).A := over_func
  have sHM : Same H (mix s H env.locals [env.locals] fun _ => none) := fun b u z => mix_old (fun hm => by rw [List.mem_singleton.mp hm, W.no _ List.mem_cons_self] at z; cases z) z
  show Step (model P w) A _ (.func [st1, .For tgt iter [.Expr (.Yield (some e) yp) yq] [] pos] env) _ [] s
  refine stp_grow (stp_func fun J0 => stp_cons (stp_wrap ?_))
  rw [hov]
  refine wpAny_mono ((h1 A s _ W.room).run [] s σ0 _ _ (wake W Z) (hpre H _ (hp rfl) sHM)) (fun f s1 hf => ?_) fun _ _ z => z
  cases f with
  | brk => obtain ⟨_, _, _, q⟩ := hf; exact q.elim
  | cont => obtain ⟨_, _, _, q⟩ := hf; exact q.elim
  | ret v => obtain ⟨_, _, _, _, _, q⟩ := hf; exact q.elim
  | next =>
    obtain ⟨σ1, G1, I1, q1⟩ := hf
    refine stp_cons (stp_For hs ?_)
    rw [hov]
    refine wpAny_mono ((hi A s _ W.room).run [] s1 σ1 G1 _ I1 q1) (fun v s2 h2 => wpAny_mono h2 (fun u s3 h3 => ?_) fun _ _ z => z) fun _ _ z => z
    obtain ⟨it, fpT, tn, J, G2, rfl, I2, T, t2, f2, sm, dl, Sd, LS, sd, hd⟩ := h3
    intro p
    have Lp : Loop P w K mg base k stk N env n Rt tgt e g te J fpT it tn dl Sd := ⟨T, hg, he, LS.data, LS.only, LS.step, LS.stop, LS.yldS⟩
    exact loop_on Lp hco hin rfl (fun hlt σ' fp' pd' h' k' l' p' cl' S' hf' hk' => ready_on Lp hco hin rfl n 1 (by omega) (Nat.lt_succ_self 0) hlt σ' fp' pd' h' k' l' p' cl' S' hf' hk') W Z (Nat.zero_le n) I2 sm sd t2 f2 (fun b hb => .inr (hd b hb)) fun b hb => by
      rw [List.mem_singleton.mp hb]
      exact List.mem_cons_self
end
/-- a comprehension over such a walk -/
theorem lcG_jt {n : Nat} {Pre : Hp → Prop} {Rt : Nat → List V → Prop} {g : TG} {tt : TT} {te : TE} {vs : List Nat} {σ : Sg} {H1 : Hp} {D : Addr} {Qd : Hp → Prop} (Pv : Nat → Hp → Prop) (h0 : Pv 0 (upd H1 D (.lst []))) (hp : ∀ H, Pv 0 H → Pre H)
    (hs : ∀ i T xs H H', i < n → Pv i H → Same H H' → H T = none → H' T = some (.tup xs) → Rt i xs → g (.ref T) (wipe σ vs) H' fun σ2 H2 => wipe σ2 vs = wipe σ vs ∧ tt σ2 H2 fun b H3 =>
      if b = true then te σ2 H3 fun y H4 => ∃ acc, H4 D = some (.lst acc) ∧ acc.length < sizeLine ∧ Pv (i + 1) (upd H4 D (.lst (acc ++ [y]))) else Pv (i + 1) H3)
    (hd : ∀ H H', Pv n H → Same H H' → Qd H') :
    ∃ W : Nat → Nat → Hp → Prop, (∃ m, W 0 m (upd H1 D (.lst []))) ∧ ∀ i m H, W i m H →
      ((Jt n Pre Rt).stop i H ∧ ∀ H', Same H H' → Qd H') ∨ ((Jt n Pre Rt).go i H ∧ ∃ Nx : Hp → Prop, (∀ H', Nx H' → ∃ m', m' < m ∧ W (i + 1) m' H') ∧ ∀ x H', (Jt n Pre Rt).yld i H x H' → g x (wipe σ vs) H' fun σ2 H2 => wipe σ2 vs = wipe σ vs ∧ tt σ2 H2 fun b H3 =>
        if b = true then te σ2 H3 fun y H4 => ∃ acc, H4 D = some (.lst acc) ∧ acc.length < sizeLine ∧ Nx (upd H4 D (.lst (acc ++ [y]))) else Nx H3) := by
  refine ⟨fun i m H => m = n - i ∧ i ≤ n ∧ Pv i H, ⟨n, rfl, Nat.zero_le _, h0⟩, ?_⟩
  rintro i m H ⟨rfl, hi, p⟩
  have pre : i = 0 → Pre H := fun e => hp H (by rw [← e]; exact p)
  by_cases hlt : i < n
  · refine .inr ⟨⟨hlt, pre⟩, Pv (i + 1), fun H' p' => ⟨n - (i + 1), by omega, rfl, hlt, p'⟩, fun x H' y => ?_⟩
    obtain ⟨T, xs, rfl, h1, h2, h3, h4⟩ := y
    exact hs i T xs H H' hlt p h2 h1 h3 h4
  · have e : i = n := by omega
    exact .inl ⟨⟨e, pre⟩, fun H' s => hd H H' (e ▸ p) s⟩
theorem jt_go {n : Nat} {Pre : Hp → Prop} {Rt : Nat → List V → Prop} : ∀ i H, (Jt n Pre Rt).go i H → i < n := fun _ _ h => h.1
theorem jt_st {n : Nat} {Pre : Hp → Prop} {Rt : Nat → List V → Prop} : ∀ i H, (Jt n Pre Rt).stop i H → i ≤ n := fun _ _ h => Nat.le_of_eq h.1
end Tw
/-! Tw: lambdas with a parameter and captured names, as values that are handed on: the heap at hand as the base of what is called. -/
namespace Tw
open PySem PySem.Spec PyProof.Rows L2 He LamX
/-- the heap at hand without what is tracked and without the frames -/
def baseN (h : Heap) (H : Hp) (fs : List Addr) : Heap := PySem.W.hideAll (hidT h H) fs
theorem baseN_get {h : Heap} {H : Hp} {fs : List Addr} {b : Addr} {o : Obj} (e : h.get? b = some o) (n : H b = none) (f : b ∉ fs) : (baseN h H fs).get? b = some o := PySem.W.hideAll_get fs (hidT_get e n) f
theorem of_baseN {h : Heap} {H : Hp} {fs : List Addr} {b : Addr} {o : Obj} (e : (baseN h H fs).get? b = some o) : h.get? b = some o ∧ H b = none := of_hidT (PySem.W.of_hideAll fs e)
theorem baseN_frame {h : Heap} {H : Hp} {fs : List Addr} {b : Addr} (hb : b ∈ fs) : (baseN h H fs).get? b = none := PySem.W.hideAll_none fs hb
theorem frames_base {h base base' : Heap} : ∀ {l : List Env}, (∀ b ∈ frs l, base'.get? b = none) → h.FunFrames base l → h.FunFrames base' l
  | [], _, _ => trivial
  | env :: rest, hb, ⟨k, ⟨L, o, e1, e2, e3, e4⟩, r⟩ => by
    have hm : ∀ b ∈ frs rest, b ∈ frs (env :: rest) := fun b hb => by
      unfold frs at hb ⊢
      rw [List.filterMap_cons]
      split
      · exact hb
      · exact List.mem_cons_of_mem _ hb
    refine ⟨k, ⟨L, o, e1, hb L ?_, e3, e4⟩, frames_base (fun b q => hb b (hm b q)) r⟩
    unfold frs
    rw [List.filterMap_cons, e1]
    exact List.mem_cons_self
section
variable {X : Cx} {pins : List (Addr × Obj)} {σ : L2.St} {H : Hp} {s : Shared}
/-- what is called may take the heap at hand as its base -/
theorem env0_new (I : Inv X pins σ H s) : Env0 X.prog X.w X.K X.mg (baseN s.heap H (frs X.stack)) X.A X.stack s H := by
  have e0 := I.env0
  have kb : ∀ b o, X.base.get? b = some o → (baseN s.heap H (frs X.stack)).get? b = some o := fun b o e => by
    obtain ⟨h1, h2⟩ := e0.bs b o e
    refine baseN_get h1 h2 fun hb => ?_
    have := (e0.funs.mem hb).1
    rw [e] at this
    cases this
  obtain ⟨mb, hb1, hb2⟩ := e0.mod.blt
  exact ⟨e0.frames, ⟨e0.mod.kin.keeps kb, e0.mod.glob.keeps kb, ⟨mb, hb1.keeps kb, hb2⟩, e0.mod.nolimit.keeps kb⟩, fun b o e => of_baseN e, Nat.le_of_eq ((PySem.W.hideAll_size _ _).trans (hidT_size _ _)), frames_base (fun b hb => baseN_frame hb) e0.funs, e0.frf, e0.hok, e0.bare⟩
/-- a def called by a promise over any base -/
theorem run_fnB {CX : CXT} {k : Nat} {f : Addr} {sp : Sp} {E : XK} {Q : VK} {us : List Value} {vs : List V} (F : FnR X.prog X.w X.K X.mg (baseN s.heap H (frs X.stack)) CX k f sp) (hr : Room k X.A) (hx : Passes CX X E) (I : Inv X pins σ H s) (r : Vals vs us) (h : sp vs H Q E) :
    codeAny (model X.prog X.w) X.A (.call (.ref f) ⟨us, []⟩) (fun r s' => match r with | .ok (.ret v) => EP X pins σ Q v s' | .ok _ => False | .error e => X.xe e s') s := by
  refine codeAny_mono (F X.A X.stack s H us vs Q E hr (env0_new I) r h) fun r s' hq => ?_
  match r, hq with
  | .error e, hq => exact hx pins σ H s e s' I hq
  | .ok (.ret u), hq => exact I.after hq
end
/-! ### the lambda's body -/
/-- one parameter, no other name of its own: captured ones and globals -/
structure LamP (sc scope : Scope) (x : Str) : Prop where
  kind : scope.kind = .function
  co : scope.isCoroutine = false
  gen : scope.isGenerator = false
  par : scope.names.lookup x = some .local
  own : ∀ y ∈ scope.names, y.2 ≠ .cell
  free : ∀ y ∈ scope.names, y.2 = .free → sc.names.lookup y.1 = some .cell ∨ sc.names.lookup y.1 = some .free
def lamPB (sc scope : Scope) (x : Str) : Bool :=
  decide (scope.kind = .function) && (!scope.isCoroutine && (!scope.isGenerator && (decide (scope.names.lookup x = some .local) && scope.names.all fun y => !decide (y.2 = .cell) && (!decide (y.2 = .free) || (decide (sc.names.lookup y.1 = some .cell) || decide (sc.names.lookup y.1 = some .free))))))
theorem lamP_by {sc scope : Scope} {x : Str} (h : lamPB sc scope x = true) : LamP sc scope x := by
  unfold lamPB at h
  obtain ⟨h1, h⟩ := ba h
  obtain ⟨h2, h⟩ := ba h
  obtain ⟨h3, h⟩ := ba h
  obtain ⟨h4, h5⟩ := ba h
  refine ⟨of_decide_eq_true h1, by simpa using h2, by simpa using h3, of_decide_eq_true h4, fun y hy => ?_, fun y hy e => ?_⟩
  · have := (ba (List.all_eq_true.mp h5 y hy)).1
    simpa using this
  · have := (ba (List.all_eq_true.mp h5 y hy)).2
    rw [decide_eq_true e, Bool.not_true, Bool.false_or, Bool.or_eq_true] at this
    exact this.imp of_decide_eq_true of_decide_eq_true
/-- the context of the lambda's body -/
def lamC (X : Cx) (base : Heap) (N : List Str) (A : Around) (outer : List Env) (s : Shared) (H : Hp) (E : XK) (scope : Scope) (f c' : Addr) : Cx where
  prog := X.prog
  w := X.w
  K := X.K
  mg := X.mg
  base := base
  A := A.deeper (lamEnv X scope s.heap.objs.size f c')
  N := N
  s_0 := s
  H_0 := H
  env := lamEnv X scope s.heap.objs.size f c'
  outer := outer
  stack := lamEnv X scope s.heap.objs.size f c' :: outer
  ex := []
  fn := fun _ => false
  calm := true
  pn := []
  xe := fun e s' => wpAny (model X.prog X.w) (A.deeper (lamEnv X scope s.heap.objs.size f c')) (leaving (lamEnv X scope s.heap.objs.size f c') e) (fun _ s'' => L2.CX X.prog X.w outer H s E e s'') (fun e' s'' => L2.CX X.prog X.w outer H s E e' s'') s'
/-- what the lambda knows of its maker's names -/
def capS (σ : L2.St) (caps : List Nat) : L2.St := caps.map fun i => (σ[i]?).getD none
section
variable {X : Cx} {pins : List (Addr × Obj)} {σ : L2.St} {H HZ : Hp} {s s1 : Shared}
theorem lam_begin {A : Around} {outer : List Env} {E : XK} {scope : Scope} {f c' : Addr} {h₁ : Heap} {tk : Nat} {x : Str} {cs : List Str} {caps : List Nat} {u : V} {uv : Value} (I : Inv X pins σ H s) (hfn : ∀ y, X.fn y = true) (L : LamP X.env.scope scope x)
    (hcs : ∀ (j : Nat) (y : Str) (i : Nat), cs[j]? = some y → caps[j]? = some i → X.N[i]? = some y) (hl : cs.length = caps.length) (hfr : ∀ y ∈ cs, scope.names.lookup y = some .free)
    (e0 : Env0 X.prog X.w X.K X.mg (baseN s.heap H (frs X.stack)) A outer s1 HZ) (hd : A.handled = none) (ru : RelV u uv)
    (hns : h₁.Ns s1.heap.objs.size fun y => ([(x, uv)] : List (Str × Value)).reverse.lookup y) (kp : ∀ b o, s1.heap.get? b = some o → h₁.get? b = some o) :
    Inv (lamC X (baseN s.heap H (frs X.stack)) (x :: cs) A outer s1 HZ E scope f c') [] (some u :: capS σ caps) HZ { s1 with heap := h₁, toks := tk } := by
  have hfree : ∀ y ∈ scope.names, y.2 = .free → ∃ c, X.env.cells.lookup y.1 = some c := fun y hy e => by
    rcases L.free y hy e with k | k
    · exact I.ok.has _ (.inl k)
    · exact I.ok.has _ (.inr k)
  have cm : ∀ {y c}, (cloFrom X.env.cells scope.names []).lookup y = some c → X.env.cells.lookup y = some c := fun {y c} e => by
    rcases cloFrom_mem (PySem.mem_of_lookup e) with hm | ⟨h1, h2⟩
    · cases hm
    · obtain ⟨c1, hc⟩ := hfree _ h1 rfl
      have hc : X.env.cells.lookup y = some c1 := hc
      have e2 : c = c1 := by
        rw [h2, hc] <;> rfl
      rw [e2]
      exact hc
  have look : ∀ {y}, scope.names.lookup y = some .free → ∃ c, (cloFrom X.env.cells scope.names []).lookup y = some c := fun {y} hl => by
    have hy : (y, NameKind.free) ∈ scope.names := PySem.mem_of_lookup hl
    exact mem_lookup (cloFrom_has (cells := X.env.cells) (acc := []) hy)
  -- the cells stand as they stood
  have cellB : ∀ {y : Str} {c : Addr} {v : Option Value}, X.env.cells.lookup y = some c → s.heap.IsCell c v → h₁.IsCell c v ∧ HZ c = none := fun {y c v} ey ⟨o, ho, hdo⟩ => by
    have nf : c ∉ frs X.stack := fun hb => by
      have ge := I.ok.cab y c (hfn y) ey
      rcases List.mem_cons.mp (I.stkSub _ hb) with z | z
      · exact I.cne y c ey z
      · obtain ⟨_, o', ho', _⟩ := I.ok.funs.mem z
        exact Nat.lt_irrefl _ (Nat.lt_of_lt_of_le (Heap.lt_size ho') ge)
    obtain ⟨q1, q2⟩ := e0.bs c o (baseN_get ho (I.freeC y c ey) nf)
    exact ⟨⟨o, kp _ _ q1, hdo⟩, q2⟩
  have noA : ∀ b : Addr, b ∉ (lamC X (baseN s.heap H (frs X.stack)) (x :: cs) A outer s1 HZ E scope f c').ex := fun b z => absurd (show b ∈ ([] : List Addr) from z) (by simp)
  refine ⟨⟨e0.mod, L.kind, rfl, rfl, Nat.le_refl _, fun y z c e1 e2 => I.ok.inj y z c (cm e1) (cm e2), fun y hy => ?_, fun y c z _ => ?_, fun _ => hd, Around.frames_deeper e0.frames, .inr ⟨rfl, rfl⟩, fun b z => absurd z (noA b), e0.bs, e0.bsz, fun b _ _ => noA b,
      fun b z => absurd z (noA b), e0.funs, e0.frf⟩,
    rfl, e0.bare, Un.kept kp, ⟨_, hns, fun i y v e1 e2 e3 => ?_⟩, fun y c e => ?_, e0.hok.fresh (Nat.le_refl _), fun y c e => ?_, fun q hq => absurd (show q ∈ ([] : List (Addr × Obj)) ++ [] from hq) (by simp), e0.hok.kept kp, ?_⟩
  · have hy : scope.names.lookup y = some .cell ∨ scope.names.lookup y = some .free := hy
    rcases hy with hy | hy
    · exact absurd rfl (L.own _ (PySem.mem_of_lookup hy))
    · exact look hy
  · have z : false = true := z
    cases z
  · have e1 : (x :: cs)[i]? = some y := e1
    have e2 : (some u :: capS σ caps)[i]? = some (some v) := e2
    cases i with
    | zero =>
      cases e1
      cases e2
      exact ⟨uv, ru, .inl ⟨L.par, by show List.lookup x [(x, uv)] = some uv; simp⟩⟩
    | succ j =>
      have e1 : cs[j]? = some y := e1
      have e2 : (capS σ caps)[j]? = some (some v) := e2
      have hj : j < caps.length := by
        rw [← hl]
        exact (List.getElem?_eq_some_iff.mp e1).1
      have ec : caps[j]? = some caps[j] := List.getElem?_eq_getElem hj
      generalize caps[j] = i at ec
      have hN := hcs j y i e1 ec
      have e3 : σ[i]? = some (some v) := by
        unfold capS at e2
        rw [List.getElem?_map, ec] at e2
        have e2 : (σ[i]?).getD none = some v := Option.some.inj e2
        cases q : σ[i]? with
        | none =>
          rw [q] at e2
          cases e2
        | some o =>
          rw [q] at e2
          have e2 : o = some v := e2
          rw [e2]
      have kf := hfr y (List.mem_of_getElem? e1)
      obtain ⟨m, hn, hlo⟩ := I.loc
      have hvis : Vis X.env.scope y := (L.free _ (PySem.mem_of_lookup kf) rfl).elim (fun k => .inr (.inl k)) (fun k => .inr (.inr k))
      obtain ⟨w', r, q⟩ := hlo i y v hN e3 hvis
      obtain ⟨c2, h2⟩ := look kf
      refine ⟨w', r, .inr ⟨.inr kf, c2, h2, ?_⟩⟩
      have c1 := cm h2
      rcases q with ⟨k', _⟩ | ⟨_, c3, e', z⟩
      · have k' : X.env.scope.names.lookup y = some .local := k'
        rcases L.free _ (PySem.mem_of_lookup kf) rfl with k2 | k2 <;> rw [show X.env.scope.names.lookup y = _ from k2] at k' <;> cases k'
      · rw [c1] at e'
        cases e'
        exact (cellB c1 z).1
  · obtain ⟨w', z⟩ := I.cell y c (cm e)
    exact ⟨w', (cellB (cm e) z).1⟩
  · obtain ⟨v, z⟩ := I.cell y c (cm e)
    exact (cellB (cm e) z).2
  · show (some u :: capS σ caps).length = (x :: cs).length
    unfold capS
    rw [List.length_cons, List.length_cons, List.length_map, hl]
/-- what a lambda promises -/
def spLam (tb : XK → TE) (σc : L2.St) (c' : Addr) (q : Str) : Sp := fun vs HZ Q E => ∃ u, vs = [u] ∧ HZ c' = some (CodeO c' q) ∧ tb E (some u :: σc) HZ Q
theorem lam_fnR {f c' : Addr} {pm ctv : Value} {params : Arguments} {body : Expr} {scope : Scope} {k : Nat} {x : Str} {cs : List Str} {caps : List Nat} {tb : XK → TE} (I : Inv X pins σ H s) (hfn : ∀ y, X.fn y = true) (L : LamP X.env.scope scope x)
    (hcs : ∀ (j : Nat) (y : Str) (i : Nat), cs[j]? = some y → caps[j]? = some i → X.N[i]? = some y) (hl : cs.length = caps.length) (hfr : ∀ y ∈ cs, scope.names.lookup y = some .free)
    (hf : s.heap.get? f = some (PySem.W.kla_obj "<lambda>" (X.env.qual ++ "<lambda>") params body scope (cloFrom X.env.cells scope.names []) pm c' ctv)) (hf0 : H f = none) (hf1 : f ∉ frs X.stack)
    (hbind : ∀ u : Value, bindArgs (PySem.W.kla_fn "<lambda>" (X.env.qual ++ "<lambda>") params body scope (cloFrom X.env.cells scope.names []) pm (.ref c') ctv) ⟨[u], []⟩ = pure [(x, u)])
    (hbody : ∀ (A : Around) (outer : List Env) (s1 : Shared) (H1 : Hp) (E : XK), Room k (A.deeper (lamEnv X scope s1.heap.objs.size f c')) → PE (lamC X (baseN s.heap H (frs X.stack)) (x :: cs) A outer s1 H1 E scope f c') body (tb E)) :
    FnR X.prog X.w X.K X.mg (baseN s.heap H (frs X.stack)) (L2.CX X.prog X.w) (k + 1) f (spLam tb (capS σ caps) c' (X.env.qual ++ "<lambda>")) := by
  intro A outer s1 HZ us vs Q E hr e0 r hsp
  obtain ⟨u, rfl, hc, ht⟩ := hsp
  obtain ⟨uv, rfl, ru⟩ := vals1 r
  have of1 := (e0.bs f _ (baseN_get hf hf0 hf1)).1
  obtain ⟨⟨oc, vs, t, hoc, hdc, hvc⟩, _, _⟩ := e0.hok c' _ hc
  have lim : s1.heap.NoLimit := e0.mod.nolimit.keeps fun b o e => (e0.bs b o e).1
  refine PySem.W.kla_callFunE hr.depth of1 rfl L.co L.gen rfl ⟨c', oc, vs, t, rfl, hoc, hdc, hvc⟩ ?_
  rw [hbind]
  refine wpAny_pure (wpAny_newFunctionEnv (fun y hy => L.own y hy) (fun y hy => ?_) (fun h₁ hns hsb => ⟨lim.fresh _ hsb, ?_⟩) L.kind)
  · rw [List.mem_singleton.mp hy]
    exact L.par
  show codeAny _ _ (.expr body (lamEnv X scope s1.heap.objs.size f c')) _ _
  have kp : ∀ b o, s1.heap.get? b = some o → h₁.get? b = some o := fun b o e => hsb.extBut b o (Nat.ne_of_lt (Heap.lt_size e)) (Heap.get?_push_of_some _ e)
  have J : Inv (lamC X (baseN s.heap H (frs X.stack)) (x :: cs) A outer s1 HZ E scope f c') [] (some u :: capS σ caps) HZ { s1 with heap := h₁, toks := s1.toks + ([(x, uv)] : List (Str × Value)).length } :=
    lam_begin I hfn L hcs hl hfr e0 hr.hd ru hns kp
  refine PySem.W.kla_codeExpr (wpAny_mono ((hbody _ _ s1 HZ E (hr.deeper _)).run [] _ _ HZ Q J ht) (fun v s' hq => ?_) fun e s' hq => hq)
  obtain ⟨w', H', J', rv, q⟩ := hq
  exact ⟨w', H', J'.os, J'.bare, J'.base, J'.hok, rv, q⟩
end
/-! ### calls -/
section
variable {X : Cx} {CX : CXT} {k i : Nat} {f : Addr} {sp : Sp} {E : XK} {x : Str} {p pos : Pos} {e : Expr} {es : List Expr} {t : TA}
/-- x(e, ..), x a local name that holds a function of the base -/
theorem pe_callF (hN : X.N[i]? = some x) (hv : Vis X.env.scope x) (hf : PySem.W.FnAt f X.base) (F : FnR X.prog X.w X.K X.mg X.base CX k f sp) (hr : Room k X.A) (hx : Passes CX X E) (ha : PA X (e :: es) t)
    (hd : (x == ("__debug__" : Str)) = false := by decide) (hcd : (x == ("__classdict__" : Str)) = false := by decide)
    (he : starEach (e :: es) X.env = (false, eval e X.env) :: starEach es X.env := by rfl) (hpl : (backTo pos (starEach es X.env)).any (·.1) = false := by rfl) :
    PE X (.Call (.Name x p) (e :: es) [] pos) (fun σ H Q => σ[i]? = some (some (.ref f)) ∧ t σ H fun vs H1 => sp vs H1 Q E) := by
  have at_ : ∀ {pins σ H s}, Inv X pins σ H s → PySem.W.FnAt f s.heap := fun I => by
    obtain ⟨oc, od, fd, sl, h⟩ := hf
    exact ⟨oc, od, fd, sl, I.bk _ _ h⟩
  refine ⟨fun pins s σ H Q I h => wpAny_Call_Name_kw (thn ((pe_var (pos := p) (i := i) hN hv hd hcd).run pins s σ H (fun v H1 => v = .ref f ∧ H1 = H) I ⟨.ref f, h.1, rfl, rfl⟩) fun u s1 ⟨v, H1, I1, r1, ev, eH⟩ => ?_)⟩
  subst ev eH
  cases r1
  refine PySem.W.callWith_F (first := []) (at_ I1) (thn (ha.run pos pins s1 σ _ _ I1 h.2) fun us s2 ⟨vs, H2, I2, r, q⟩ => ⟨at_ I2, ?_⟩) he hpl
  exact wpAny_call (run_fnR F hr hx I2 r q)
end
section
variable {X : Cx} {CX : CXT} {kc k : Nat} {C g c P : Addr} {spB : Heap → Sp} {E : L2.St → XK} {fe : Expr} {tf : TE} {T : List (Addr × Str)} {params : Arguments} {body : Expr} {scope : Scope} {tb : XK → TE} {lpos pos : Pos} {x : Str} {cs : List Str} {caps : List Nat}
def tCallOL (P : Program) (w : World) (K : Fg) (mg : Str → Option Value) (C : Addr) (k : Nat) (T : List (Addr × Str)) (q : Str) (tb : XK → TE) (caps : List Nat) (spB : Heap → Sp) (E : L2.St → XK) (tf : TE) : TE := fun σ H Q => tf σ H fun y H0 => ∃ a, y = .ref a ∧ Tabs T H0 ∧ ∀ (f c' : Addr) (H1 : Hp) (base' : Heap), ExtN H0 H1 → Tabs T H1 → H1 c' = some (CodeO c' q) → PySem.W.FnAt f base' →
  FnR P w K mg base' (L2.CX P w) (k + 1) f (spLam tb (capS σ caps) c' q) → (∃ dx fs, H1 a = some (.ins C dx fs)) ∧ spB base' [.ref a, .ref f] H1 Q (E σ)
/-- o(lambda x: ..), o an instance of C whose __call__ is promised over any base -/
theorem pe_callOL {Pr : Program} {wo : World} {K : Fg} {mg : Str → Option Value} {qn : Str} (hf : PE X fe tf) (co : StX.CallO X.K C g) (F : ∀ base' : Heap, FnR X.prog X.w X.K X.mg base' CX kc g (spB base')) (hr : Room kc X.A) (hx : ∀ σ, PassesAt CX X σ (E σ))
    (TB : TabB X.base X.mg c P) (hcode : X.env.code = .ref c) (hmT : (P, X.env.qual ++ "<lambda>") ∈ T) (hu : ∀ p ∈ T, p.1 = P → p.2 = X.env.qual ++ "<lambda>") (hdef : defaultsOf params X.env = ([], []))
    (hfn : ∀ y, X.fn y = true) (L : LamP X.env.scope scope x) (hcs : ∀ (j : Nat) (y : Str) (i : Nat), cs[j]? = some y → caps[j]? = some i → X.N[i]? = some y) (hl : cs.length = caps.length) (hfr : ∀ y ∈ cs, scope.names.lookup y = some .free)
    (hbind : ∀ (u : Value) (q : Str) (cl : List (Str × Addr)) (pm cv ctv : Value), bindArgs (PySem.W.kla_fn "<lambda>" q params body scope cl pm cv ctv) ⟨[u], []⟩ = pure [(x, u)])
    (hbody : ∀ (base : Heap) (A : Around) (outer : List Env) (s1 : Shared) (H1 : Hp) (E : XK) (f c' : Addr), Room k (A.deeper (lamEnv X scope s1.heap.objs.size f c')) → PE (lamC X base (x :: cs) A outer s1 H1 E scope f c') body (tb E))
    (ht : eval (.Call fe [.Lambda params body scope lpos] [] pos) X.env = (do callWith pos (← eval fe X.env) [] (backTo pos (starEach [.Lambda params body scope lpos] X.env)) (backToKw pos (keywordEach [] X.env))) := by rfl) (hP : X.prog = Pr := by rfl) (hW : X.w = wo := by rfl) (hK : X.K = K := by rfl) (hM : X.mg = mg := by rfl) (hQ : X.env.qual ++ "<lambda>" = qn := by rfl) :
    PE X (.Call fe [.Lambda params body scope lpos] [] pos) (tCallOL Pr wo K mg C k T qn tb caps spB E tf) := by
  subst hP hW hK hM hQ
  refine ⟨fun pins s σ H Q I h => ?_⟩
  refine Call_ (thn (hf.run pins s σ H _ I h) fun u s1 ⟨y, H1, I1, ry, a, ey, hT, q⟩ => ?_) ht
  subst ey
  obtain rfl : u = Value.ref a := ry
  have hfree : ∀ y ∈ scope.names, y.2 = .free → ∃ c, X.env.cells.lookup y.1 = some c := fun y hy e => by
    rcases L.free y hy e with k | k
    · exact I.ok.has _ (.inl k)
    · exact I.ok.has _ (.inr k)
  refine StX.callO_with (Calls.spliced_cons (lam_make2 I1 TB hcode hmT hu hT hdef hfree fun f c' pm ctv H2 s2 I2 eN T2 hf2 hf0 hf1 hco => Calls.spliced_nil ?_)) (by rfl) (by rfl)
  have hfa : PySem.W.FnAt f (baseN s2.heap H2 (frs X.stack)) := ⟨_, _, _, _, baseN_get hf2 hf0 hf1⟩
  have FL := lam_fnR I2 hfn L hcs hl hfr hf2 hf0 hf1 (fun u => hbind u _ _ _ _ _) (fun A outer s1 H1 E hr => hbody _ A outer s1 H1 E f c' hr)
  obtain ⟨hi, q2⟩ := q f c' H2 _ eN T2 hco hfa FL
  obtain ⟨ox, od, J, hd⟩ := StX.insC_at I2 (.inr hi)
  refine ⟨⟨C, ox, od, J, hd⟩, wpAny_call (PySem.W.kco_code I2.kIn J hd co.at_ co.fn co.fi ?_)⟩
  refine codeAny_mono (F _ X.A X.stack s2 H2 [.ref a, .ref f] [.ref a, .ref f] Q (E σ) hr (env0_new I2) (.cons rfl (.cons rfl .nil)) q2) fun r s' hq => ?_
  match r, hq with
  | .error e, hq => exact hx σ pins H2 s2 e s' I2 hq
  | .ok (.ret u), hq => exact I2.after hq
end
end Tw
/-! Tw: C(*e); d.update(e), both tracked. -/
namespace Tw
open PySem PySem.Spec PyProof PyProof.Rows L2 He
theorem u1 {k : Nat} {A : Around} (r : Room k A) : A.units + 1 < cLine := by
  have := r.un
  omega
section
variable {X : Cx} {CX : CXT} {k : Nat} {f C : Addr} {sp : Sp} {E : XK} {x : Str} {e : Expr} {te : TE} {p sp_ pos : Pos}
/-- C(*e) by a positional promise of its __init__ -/
theorem pe_makeSt (M : Mk X.K C f) (F : FnR X.prog X.w X.K X.mg X.base CX k f sp) (hr : Room (k + 1) X.A) (hg : Gl X x) (hm : X.mg x = some (.ref C)) (hx : Passes CX X E) (he : PE X e te) (hdb : (x == ("__debug__" : Str)) = false := by decide)
    (hst : starEach [.Starred e sp_] X.env = [(true, eval e X.env)] := by rfl) :
    PE X (.Call (.Name x p) [.Starred e sp_] [] pos) (fun σ H Q => te σ H fun y H1 => ∃ a xs, y = V.ref a ∧ (SqT X.K H1 a xs ∨ SqL X.K H1 a xs) ∧ ∀ x dx, H1 x = Option.none → H1 dx = Option.none → dx ≠ x →
      sp (V.ref x :: xs) (upd (upd H1 dx (.own x)) x (.ins C dx [])) (fun v H2 => v = .non ∧ Q (.ref x) H2) E) := by
  refine ⟨fun pins s σ H Q I h => ?_⟩
  refine wpAny_Call_Name_kw (ld_glob I hg hm ?_ hdb)
  refine PySem.W.callWith_S (h₀ := X.base) I.ok.mod.kin M.kp (thn (he.run pins s σ H _ I h) fun v s1 ⟨y, H1, I1, ry, a, xs, ey, hxs, q⟩ => ?_) hst
  subst ey
  obtain rfl : v = Value.ref a := ry
  exact StX.star_any I1 hxs fun us s2 I2 rv => ⟨I2.kIn, StX.run_makeR M F hr hx I2 rv q⟩
end
section
variable {X : Cx} {o e : Expr} {apos cpos : Pos} {td ty : TE} {pins : List (Addr × Obj)} {σ : L2.St} {H : Hp} {s : Shared} {a b : Addr} {kvs more : List (Key × V)} {A : Around} {E : Value → Shared → Prop}
theorem d_update {Q : Value → Shared → Prop} (I : Inv X pins σ H s) (e : H a = some (.dK kvs)) (e2 : H b = some (.dK more)) (hn : a ≠ b) (hz : kvs.length + more.length ≤ sizeLine) (h : ∀ s', Inv X pins σ (upd H a (.dK (mergeK kvs more))) s' → Q .none s') :
    wpAny (model X.prog X.w) A (call (.builtin "dict.update") [.ref a, .ref b]) Q E s := by
  obtain ⟨z, hd, vs, rel, dd⟩ := dk_of I.hok e
  obtain ⟨z2, hd2, vs2, rel2, dd2⟩ := dk_of I.hok e2
  refine call_meetsIn PySem.F.slot_dict_update dd.typeIs PySem.F.entry_dict_update (PySem.F.args_dict_update_2 _ _) (meets_dict_update (mixKind X.prog X.w) a b hn hd2) ⟨vs, vs2, dd, dd2, by rw [← rel.length, ← rel2.length]; exact hz, fun h' dd' _ hs => h _ ?_⟩
  have he : ∃ q, h'.get? a = some q := let ⟨q, _, _, hq, _⟩ := dd'; ⟨q, hq⟩
  exact d_write (t' := s.toks) I (by rw [e]; exact True.intro) hs he (dk_new (Nat.le_trans (length_mergeK _ _) hz) hd (KV.merge rel2 rel) dd')
/-- d.update(e) -/
def tDUpd (td ty : TE) : TE := fun σ H Q => td σ H fun x H1 => ∃ a, x = .ref a ∧ IsD H1 a ∧ ty σ H1 fun y H2 => ∃ b kvs more, y = .ref b ∧ a ≠ b ∧ H2 a = some (.dK kvs) ∧ H2 b = some (.dK more) ∧ kvs.length + more.length ≤ sizeLine ∧ Q .non (upd H2 a (.dK (mergeK kvs more)))
theorem pe_dupd (ho : PE X o td) (he : PE X e ty) (m : M1 X o "update" apos e cpos) : PE X (.Call (.Attribute o "update" apos) [e] [] cpos) (tDUpd td ty) := by
  refine ⟨fun pins s σ H Q I h => ?_⟩
  refine wpAny_Call_method m.base m.few m.line PySem.F.plainAttrs_dict PySem.F.slot_dict_update PySem.F.type_dict_update (thn (ho.run pins s σ H _ I h) fun u s1 ⟨x, H1, I1, rx, a, ex, d, q1⟩ => ?_)
  subst ex
  obtain rfl : u = Value.ref a := rx
  obtain ⟨t1, t2, _⟩ := isD_at I1 d
  refine ⟨t1, t2, ?_⟩
  rw [m.trees]
  refine Calls.callWith_builtin rfl (Calls.evalArgs_plain (Calls.spliced_cons (thn (he.run pins s1 σ H1 _ I1 q1) fun iv s2 ⟨y, H2, I2, ry, b, kvs, more, ey, hn, ea, eb, hz, q2⟩ => Calls.spliced_nil ?_)))
  subst ey
  obtain rfl : iv = Value.ref b := ry
  exact d_update I2 ea eb hn hz fun s3 I3 => ⟨.non, _, I3, rfl, q2⟩
end
theorem pi_tupK {X : Cx} (K : PySem.W.Frag) {tg l : Expr} {tl : TE} (hl : PE X l tl) (h : X.K = K := by rfl) : PI X tg l (iTup K tl) := by
  subst h
  exact pi_tup hl
theorem pg_tupK {X : Cx} (K : PySem.W.Frag) {es : List Expr} {k : Nat} {t : TGs} {n : Nat} {pos : Pos} (hc : X.calm = true) (h : PGs X es t) (hK : X.K = K := by rfl)
    (hn : (assignEach es X.env).length = n := by rfl) (hst : (assignEach es X.env).findIdx? (·.1) = none := by rfl) : PG X (.Tuple es k pos) (gTup K n t) := by
  subst hK
  exact pg_tup hc h hn hst
theorem call_tuple_ofK {X : Cx} (K : PySem.W.Frag) (h : X.K = K := by rfl) : CallR X (.type "tuple") (fun xs H Q => ∃ p ys, xs = [V.ref p] ∧ ((SqL K H p ys ∧ ∀ (l : Addr), H l = Option.none → Q (V.ref l) (upd H l (HO.tup ys))) ∨ SqT K H p ys ∧ Q (V.ref p) H)) := by
  subst h
  exact call_tuple_of
end Tw
namespace K08
open PySem PySem.Spec PyProof.Rows L2 He Tw
theorem lenK {X : Cx} (K : Fg) (h : X.K = K := by rfl) : CallR X (.builtin "len") (fun xs H Q => ∃ x n, xs = [x] ∧ LenV K x H n ∧ Q (.int n) H) := by
  subst h
  exact call_len
/-- a dict that is walked from now on -/
theorem pi_lock {X : Cx} {tg e : Expr} {wi : TI} (h : PI X tg e wi) : PI X tg e (fun σ H R => ∃ d u, H d = some u ∧ Mut (some u) ∧ ∀ od, wi σ (upd H d (.frz od u)) R) := by
  refine ⟨fun pins s σ H R I q => ?_⟩
  obtain ⟨d, u, hd, mu, q⟩ := q
  obtain ⟨od, I1⟩ := I.lock hd mu
  exact h.run pins s σ _ R I1 (q od)
theorem blk_cnt (r : Int) : ∀ {ys : List V} {ps : List (Int × Str)}, ys.length = ps.length → (blk ys ps r).length = cnt r ps
  | [], [], _ => rfl
  | [], _ :: _, h => nomatch h
  | _ :: _, [], h => nomatch h
  | y :: ys, p :: ps, h => by
    have ih := blk_cnt r (ys := ys) (ps := ps) (Nat.succ.inj h)
    by_cases e : p.1 = r
    · rw [show blk (y :: ys) (p :: ps) r = y :: blk ys ps r from by rw [blk]; exact if_pos e, List.length_cons, ih]
      unfold cnt at_
      simp [e]
    · rw [show blk (y :: ys) (p :: ps) r = blk ys ps r from by rw [blk]; exact if_neg e, ih]
      unfold cnt at_
      simp [e]
abbrev s_blk : Stmt := inClass (topS 25) 13
abbrev N_blk : List Str := ["self", "found", "rank"]
theorem gs_blk : GScope N_blk ["self"] (defScope s_blk) := ⟨rfl, rfl, rfl, by decide +kernel, rfl, by decide +kernel, by decide +kernel⟩
/-- where the list of a rank stands -/
def lof (kvs : List (Key × V)) (r : Int) : Addr := match valV kvs (Sum.inl r) with | some (.ref l) => l | _ => 0
theorem lof_eq {kvs : List (Key × V)} {r : Int} {l : Addr} (h : valV kvs (Sum.inl r) = some (.ref l)) : lof kvs r = l := by unfold lof; rw [h]
/-- the i-th block -/
def rtB (ps : List (Int × Str)) : Nat → List V → Prop := fun i xs => ∃ r, (fsts (rk ps))[i]? = some r ∧ xs = [.int r, .int (cnt r ps : Nat)]
def spBlk (K : Fg) : SpW := fun vs H J n => ∃ (a : Addr) (ys : List V) (ps : List (Int × Str)), vs = [.ref a] ∧ ps.length ≤ 900 ∧ n = (fsts (rk ps)).length ∧ J = Tw.Jt n (fun H => RowAt K H a ys ∧ Its K H ys ps) (rtB ps)
section
variable {P : Program} {w : World} {K : Fg} {mg : Str → Option Value} {base : Heap}
theorem ok_blk {f fB : Addr} {fd fdB : FuncData} (F : FnP K "blocks" "Row.blocks" s_blk f fd) (FB : FnP K "by_rank" "by_rank" s_by fB fdB) (gB : mg "by_rank" = some (.ref fB)) (T : Txt K mg) : FnW P w K mg base 2 f fd ["self"] (spBlk K) := by
  have zlen : mg "len" = none := T.bl (by decide +kernel)
  have GB : FnOk P w K mg base CX0 1 fB fdB ["items"] (spBy K) := ok_by FB T
  have bB : Binds K fdB ["items"] [] := FB.bindsN fun _ _ _ _ _ _ us hl => match us, hl with | [_], _ => rfl
  obtain ⟨oc, od, dV, kV', doc, pm, an, cdv, ct, osl, rfl, lk, hcd, _, _⟩ := F.ex
  refine gen_of lk hcd gs_blk (fun _ => rfl) (by decide +kernel) (fun vs H J n h => ?_) fun stk H vs J n h L hb hf ge lo hsp => ?_
  · obtain ⟨a, ys, ps, rfl, _⟩ := h
    rfl
  · obtain ⟨a, ys, ps, rfl, hl, rfl, rfl⟩ := hsp
    apply ready_first (env := envOfC "Row.blocks" (defScope s_blk) L f cdv) (N := N_blk)
    case h1 => exact fun A s M hr => ps_set (i := 1) gs_blk.nd rfl (Or.inl rfl) (pe_call (E := E0) GB (hr.deeper _) rfl gB FB.kp bB .nil pass0 (pa_cons (fldK K (pv 0)) pa_nil))
    case hi => exact fun A s M hr => pi_lock (pi_keys (pv 1))
    case hg => exact fun A s M => pg_name (i := 2) gs_blk.nd rfl (Or.inl rfl)
    case he => exact fun A s M hr => pe_tupN (pa_cons (pv 2) (pa_cons (pe_callB (lenK K) (by rfl) zlen (by decide +kernel) (pa_cons (pe_dget (u1 (hr.deeper _)) (pv 1) (pv 2) (fun _ _ => rfl)) pa_nil)) pa_nil))
    case hs => exact fun _ => rfl
    case hco => rfl
    case hin => rfl
    case Z => exact ⟨ge, hb, hf, List.mem_cons_self, fun b hb => by rw [List.mem_singleton.mp hb]; exact Nat.le_refl _, lo, rfl, fun b u e => nomatch e⟩
    intro H M hP hM
    have hll : ys.length = ps.length := its_len hP.2
    obtain ⟨⟨dx, t, ha, ht⟩, its⟩ := hP
    have kL : ∀ (kvs : List (Key × V)), kvs.map Prod.fst = (fsts (rk ps)).map Sum.inl → kvs.length = (fsts (rk ps)).length := fun kvs e => by
      have := congrArg List.length e
      rwa [List.length_map, List.length_map] at this
    refine ⟨_, rfl, a, _, dx, _, _, rfl, hM _ _ ha, T.clsR, T.naR, rfl, t, ys, ps, rfl, SqT.of (hM _ _ ht), its.same hM, hl, fun d G1 kvs hd s1 G => ?_⟩
    dsimp only [gName]
    have dn : ∀ l, M l ≠ none → l ≠ d := fun l q z => q (by rw [z]; exact hd)
    refine ⟨d, _, G.at_, trivial, fun od => ⟨_, rfl, d, od, rfl, .inl ⟨kvs, upd_same, ?_, d :: (fsts (rk ps)).map (lof kvs), fun i σ G' => ∃ v : Option V, σ = [some (.ref a), some (.ref d), v] ∧ G' d = some (.frz od (.dK kvs)) ∧ ∀ r ∈ rk ps, ∃ l, valV kvs (Sum.inl r) = some (.ref l) ∧ G' l = some (.lst (blk ys ps r)),
      ⟨fun i σ G' ⟨v, _, h1, h2⟩ b hb => ?_, fun i σ G' G2 ⟨v, h0, h1, h2⟩ hd' => ?_, fun i σ G' hi ⟨v, h0, h1, h2⟩ => ?_, fun σ G' ⟨v, h0, h1, h2⟩ => ?_, fun i G' x G2 hy => ?_⟩, ⟨none, rfl, upd_same, fun r hr => ?_⟩, fun b hb => ?_⟩⟩⟩
    · exact fun b o e => by rw [upd_ne (dn b (by rw [e]; simp))]; exact s1 b o e
    · rcases List.mem_cons.mp hb with rfl | hb
      · exact ⟨_, h1, trivial⟩
      · obtain ⟨r, hr, rfl⟩ := List.mem_map.mp hb
        obtain ⟨l, e1, e2⟩ := h2 r (mem_fsts.mp hr)
        rw [lof_eq e1]
        exact ⟨_, e2, trivial⟩
    · refine ⟨v, h0, (hd' d List.mem_cons_self).trans h1, fun r hr => ?_⟩
      obtain ⟨l, e1, e2⟩ := h2 r hr
      refine ⟨l, e1, (hd' l (List.mem_cons_of_mem _ (List.mem_map.mpr ⟨r, mem_fsts.mpr hr, lof_eq e1⟩))).trans e2⟩
    · refine ⟨⟨h1, by rw [kL kvs G.keys]; exact hi⟩, fun x G2 ⟨hG, kk, vv, hk, hx⟩ => ?_⟩
      subst hG
      obtain ⟨r, hr⟩ : ∃ r, (fsts (rk ps))[i]? = some r := ⟨_, List.getElem?_eq_getElem hi⟩
      have ek : kk = Sum.inl r := by
        have q := congrArg (fun l => l[i]?) G.keys
        simp only [List.getElem?_map, hk, hr, Option.map_some] at q
        exact Option.some.inj q
      subst ek
      have hm : r ∈ rk ps := mem_fsts.mp (List.mem_of_getElem? hr)
      obtain ⟨l, e1, e2⟩ := h2 r hm
      rw [h0, hx]
      dsimp only [gName]
      refine ⟨_, rfl, _, rfl, _, rfl, d, .ref l, rfl, .inl ⟨kvs, Sum.inl r, .inr ⟨od, h1⟩, rfl, e1.symm⟩, .ref l, (blk ys ps r).length, rfl, .inl ⟨_, SqL.of e2, rfl⟩, sz1000 (by show 2 ≤ 1000; decide), fun T0 G3 hT s3 g3 => ⟨⟨some (.int r), rfl, s3 _ _ h1, fun r' hr' => ?_⟩, s3, T0, _, rfl, hT, g3, r, hr, ?_⟩⟩
      · obtain ⟨l', q1, q2⟩ := h2 r' hr'
        exact ⟨l', q1, s3 _ _ q2⟩
      · rw [blk_cnt r hll]
        rfl
    · exact ⟨h1, by rw [kL kvs G.keys]; exact Nat.le_refl _⟩
    · rw [hy.1]; exact Same.refl _
    · obtain ⟨l, e1, e2, _⟩ := G.there r hr
      refine ⟨l, e1, ?_⟩
      rw [upd_ne]
      · exact e2
      · rintro rfl
        have := G.at_
        rw [e2] at this
        cases this
    · rcases List.mem_cons.mp hb with rfl | hb
      · exact hd
      · obtain ⟨r, hr, rfl⟩ := List.mem_map.mp hb
        obtain ⟨l, e1, _, e3⟩ := G.there r (mem_fsts.mp hr)
        rw [lof_eq e1]
        exact e3
end
end K08
namespace K08
open PySem PySem.Spec PyProof.Rows L2 He Tw
abbrev s_wit : Stmt := inClass (topS 25) 14
abbrev N_wit : List Str := ["self", "other", "rank", "many"]
theorem sc_wit : FnScope N_wit ["self", "other"] (defScope s_wit) := ⟨rfl, rfl, rfl, by decide +kernel, rfl, by decide +kernel, by decide +kernel⟩
theorem inB_fsts (ps us : List (Int × Str)) : ((fsts (rk ps)).map fun r => decide (cnt r ps ≤ cnt r us)).all id = inB ps us := by
  unfold inB
  rw [Bool.eq_iff_iff, List.all_map, List.all_eq_true, List.all_eq_true]
  constructor
  · intro h q hq
    exact h q.1 (mem_fsts.mpr (List.mem_map.mpr ⟨q, hq, rfl⟩))
  · intro h r hr
    obtain ⟨q, hq, rfl⟩ := List.mem_map.mp (mem_fsts.mp hr)
    exact h q hq
theorem fsts_len (xs : List Int) : (fsts xs).length ≤ xs.length := by
  have h : ∀ (xs acc : List Int), (xs.foldl (fun acc r => if r ∈ acc then acc else acc ++ [r]) acc).length ≤ acc.length + xs.length := by
    intro xs
    induction xs with
    | nil => intro acc; simp
    | cons x xs ih =>
      intro acc
      rw [List.foldl_cons, List.length_cons]
      have := ih (if x ∈ acc then acc else acc ++ [x])
      split at this
      · rename_i hm
        rw [if_pos hm]; omega
      · rename_i hm
        rw [if_neg hm]
        rw [List.length_append, List.length_singleton] at this
        omega
  have q := h xs []
  rw [List.length_nil, Nat.zero_add] at q
  exact q
section
variable {P : Program} {w : World} {K : Fg} {mg : Str → Option Value} {base : Heap}
theorem ok_within {f fB : Addr} {fd fdB fdK fdN fdL : FuncData} (F : FnP K "within" "Row.within" s_wit f fd) (FL : FnP K "blocks" "Row.blocks" s_blk (ma K (ga K "Row") "blocks") fdL) (FB : FnP K "by_rank" "by_rank" s_by fB fdB) (gB : mg "by_rank" = some (.ref fB))
    (FN : FnP K "number" "Row.number" s_numr (ma K (ga K "Row") "number") fdN) (FK : FnP K "ranks" "Row.ranks" s_rks (ma K (ga K "Row") "ranks") fdK) (T : Txt K mg) : FnOk P w K mg base CX0 9 f fd ["self", "other"] (spWithin K) := by
  have zall : mg "all" = none := T.bl (by decide +kernel)
  have GL : FnW P w K mg base 2 _ fdL ["self"] (spBlk K) := ok_blk FL FB gB T
  have GN : FnOk P w K mg base CX0 2 _ fdN ["self", "rank"] (spNumR K) := ok_numr FN FK T
  have bL : Binds K fdL ["self"] [] := FL.bindsN fun _ _ _ _ _ _ us hl => match us, hl with | [_], _ => rfl
  have bN : Binds K fdN ["self", "rank"] [] := FN.bindsN fun _ _ _ _ _ _ us hl => match us, hl with | [_, _], _ => rfl
  have mL := T.mtR2 (m := "blocks") (by decide +kernel)
  have mN := T.mtR2 (m := "number") (by decide +kernel)
  refine F.ok sc_wit (fun vs H Q E h => ?_) (fun cdv A outer s H vs Q E hr h => ?_)
  · obtain ⟨a, b, ys, zs, ps, us, rfl, _⟩ := h
    rfl
  · obtain ⟨a, b, ys, zs, ps, us, rfl, hA, iA, nA, _, hB, iB, nB, _, k⟩ := h
    refine ⟨_, PSs.nox (pss_one (ps_ret (pe_callB (cr_all rfl) (by rfl) zall (by decide +kernel) (pa_cons (pe_lcG (k := 3) (own := [("rank", 2), ("many", 3)]) (g := gTup K 2 (gCons (gName 2) (gCons (gName 3) gNil))) (tt := tYes) (by rfl) (hr.mono (by decide)) sc_wit.nd
      (pig_meth0 (pv 0) T.clsR mL GL (hr.mono (by decide)) bL .nil) (blkOk_by (own := [("rank", 2), ("many", 3)]) (N := N_wit) (sc := defScope s_wit) (by decide +kernel))
      (fun _ _ _ _ _ => pg_tup (by rfl) (pgs_cons (pg_name (i := 2) sc_wit.nd rfl (Or.inl rfl)) (pgs_cons (pg_name (i := 3) sc_wit.nd rfl (Or.inl rfl)) pgs_nil))) (fun _ _ _ _ _ => pts_nil)
      (fun _ _ _ _ _ => pe_cmpR op_le (pv 3) (pe_meth (E := E0) (pv 1) T.clsR mN GN (hr.mono (by decide)) bN .nil pass0 (pa_cons (pv 2) pa_nil)) (nomark _))) pa_nil)))), ?_⟩
    obtain ⟨da, ta, ha, hta⟩ := id hA
    have hlp : ys.length = ps.length := its_len iA
    refine ⟨_, rfl, a, da, _, _, _, rfl, ha, rfl, jt_go, jt_st, ⟨a, ys, ps, rfl, by omega, rfl, rfl⟩, fun D hD => lcG_jt (fun i H' => Same H H' ∧ H' D = some (.lst (((fsts (rk ps)).take i).map fun r => V.bl (decide (cnt r ps ≤ cnt r us))))) ⟨same_new hD, upd_same⟩ (fun H' q => ⟨hA.same q.1, iA.same q.1⟩) ?_ ?_⟩
    · rintro i T0 xs H2 H3 hi ⟨s2, g2⟩ s3 hT gT ⟨r, hr', rfl⟩
      have s23 := s2.trans s3
      obtain ⟨db, tb, hb, htb⟩ := id hB
      refine ⟨T0, _, rfl, SqT.of gT, rfl, _, _, rfl, _, _, rfl, rfl, rfl, _, rfl, _, rfl, b, db, _, rfl, s23 _ _ hb, rfl, _, rfl, b, zs, us, r, rfl, hB.same s23, iB.same s23, nB, fun H4 s4 => ⟨_, _, rfl, rfl, ?_⟩⟩
      have g4 := s4 _ _ (s3 _ _ g2)
      refine ⟨_, g4, ?_, same_upd (s23.trans s4) hD, ?_⟩
      · rw [List.length_map]
        exact Nat.lt_of_le_of_lt (List.length_take_le' _ _) (Nat.lt_of_le_of_lt (fsts_len _) (Nat.lt_of_le_of_lt (show (rk ps).length ≤ 900 by unfold rk; rw [List.length_map]; omega) (by decide)))
      · rw [upd_same, List.take_add_one, hr', Option.toList_some, List.map_append]
        simp
    · rintro H2 H3 ⟨s2, g2⟩ s3
      have g3 := s3 _ _ g2
      rw [List.take_of_length_le (Nat.le_refl _)] at g3
      refine ⟨D, (fsts (rk ps)).map fun r => decide (cnt r ps ≤ cnt r us), rfl, SqL.of (by rw [List.map_map]; exact g3), ?_⟩
      rw [inB_fsts]
      exact k H3 (s2.trans s3)
end
end K08
namespace K08
open PySem PySem.Spec PyProof.Rows L2 He Tw
theorem cnt_app (r : Int) (ps qs : List (Int × Str)) : cnt r (ps ++ qs) = cnt r ps + cnt r qs := by
  unfold cnt at_
  rw [List.filter_append, List.length_append]
theorem cnt_cons (r : Int) (q : Int × Str) (ps : List (Int × Str)) : cnt r (q :: ps) = (if q.1 = r then 1 else 0) + cnt r ps := by
  unfold cnt at_
  by_cases h : q.1 = r
  · simp [h]; omega
  · simp [h]
theorem cnt_rep (r : Int) (q : Int × Str) : ∀ n : Nat, cnt r (List.replicate n q) = n * (if q.1 = r then 1 else 0)
  | 0 => by simp [cnt, at_]
  | n + 1 => by rw [List.replicate_succ, cnt_cons, cnt_rep r q n, Nat.succ_mul]; omega
theorem cnt_repL (r : Int) (n : Nat) : ∀ ps : List (Int × Str), cnt r (repL ps n) = n * cnt r ps
  | [] => by simp [repL, cnt, at_]
  | q :: ps => by
    rw [show repL (q :: ps) n = List.replicate n q ++ repL ps n from rfl, cnt_app, cnt_rep, cnt_repL r n ps, cnt_cons, Nat.mul_add]
theorem nodup_fold : ∀ {xs acc : List Int}, acc.Nodup → (xs.foldl (fun acc r => if r ∈ acc then acc else acc ++ [r]) acc).Nodup
  | [], acc, h => h
  | x :: xs, acc, h => by
    rw [List.foldl_cons]
    refine nodup_fold ?_
    split
    · exact h
    · rename_i hx
      rw [List.nodup_append]
      refine ⟨h, (List.nodup_cons.mpr ⟨(fun z => nomatch z), List.nodup_nil⟩), fun a ha b hb e => ?_⟩
      rw [List.mem_singleton.mp hb] at e
      exact hx (e ▸ ha)
theorem nodup_fsts (xs : List Int) : (fsts xs).Nodup := nodup_fold List.nodup_nil
theorem sumI_ind {x : Int} : ∀ {L : List Int}, L.Nodup → x ∈ L → (L.map fun r => if x = r then (1 : Int) else 0).sum = 1
  | y :: L, nd, h => by
    rw [List.nodup_cons] at nd
    rw [List.map_cons, List.sum_cons]
    have zero : ∀ {L : List Int}, x ∉ L → (L.map fun r => if x = r then (1 : Int) else 0).sum = 0 := by
      intro L
      induction L with
      | nil => intro _; rfl
      | cons z L ih =>
        intro hz
        rw [List.mem_cons, not_or] at hz
        rw [List.map_cons, List.sum_cons, if_neg hz.1, ih hz.2]; rfl
    by_cases e : x = y
    · subst e
      rw [if_pos rfl, zero nd.1]; rfl
    · rw [if_neg e, sumI_ind nd.2 ((List.mem_cons.mp h).resolve_left e)]; rfl
theorem sumI_add (f g : Int → Int) : ∀ L : List Int, (L.map fun r => f r + g r).sum = (L.map f).sum + (L.map g).sum
  | [] => rfl
  | x :: L => by
    rw [List.map_cons, List.map_cons, List.map_cons, List.sum_cons, List.sum_cons, List.sum_cons, sumI_add f g L]; omega
theorem sumI_cnt {L : List Int} (nd : L.Nodup) : ∀ {ps : List (Int × Str)}, (∀ q ∈ ps, q.1 ∈ L) → (L.map fun r => ((cnt r ps : Nat) : Int)).sum = (ps.length : Int)
  | [], _ => by
    have : ∀ L : List Int, (L.map fun r => ((cnt r [] : Nat) : Int)).sum = 0 := by
      intro L
      induction L with
      | nil => rfl
      | cons x L ih => rw [List.map_cons, List.sum_cons, ih]; rfl
    exact this L
  | q :: ps, h => by
    have e : (fun r => ((cnt r (q :: ps) : Nat) : Int)) = fun r => (if q.1 = r then (1 : Int) else 0) + ((cnt r ps : Nat) : Int) := by
      funext r
      rw [cnt_cons]
      by_cases hq : q.1 = r
      · simp [hq]
      · simp [hq]
    rw [e, sumI_add (fun r => if q.1 = r then (1 : Int) else 0), sumI_ind nd (h q List.mem_cons_self), sumI_cnt nd fun q' hq => h q' (List.mem_cons_of_mem _ hq), List.length_cons]
    omega
theorem sum_all (ps : List (Int × Str)) : ((fsts (rk ps)).map fun r => ((cnt r ps : Nat) : Int)).sum = (ps.length : Int) :=
  sumI_cnt (nodup_fsts _) fun q hq => mem_fsts.mpr (List.mem_map.mpr ⟨q, hq, rfl⟩)
section
variable {K : Fg} {mg : Str → Option Value} {rs : List Int} {n m : Nat} {H : Hp} {x : Addr} {ps : List (Int × Str)} {Q : VK} {E : XK}
theorem mul_row (hx : RowB K rs n H x ps) (hm : n * m ≤ 200) (h1 : m ≤ 1000) (k : ∀ (a : Addr) (H' : Hp), H a = none → Same H H' → RowB K rs (n * m) H' a (repL ps m) → Q (.ref a) H') : spRep K false [.ref x, .int (m : Nat)] H Q E := by
  obtain ⟨ys, r, i⟩ := hx.at_
  have hl : ps.length * m ≤ n * m := Nat.mul_le_mul_right m hx.few
  refine ⟨x, m, ys, ps, rfl, r, i, hx.asc, by omega, h1, fun _ a H' zs ha s ra ia => k a H' ha s ⟨⟨zs, ra, ia⟩, asc_repL hx.asc, by rw [repL_len]; exact hl, fun r hr => ?_⟩, fun h => by omega⟩
  obtain ⟨q, hq, e⟩ := List.mem_map.mp hr
  exact e ▸ hx.rn _ (List.mem_map.mpr ⟨q, repL_mem hq, rfl⟩)
theorem mulT_row (hx : RowB K rs n H x ps) (hm : n * m ≤ 200) (h1 : m ≤ 1000) (k : ∀ (a : Addr) (H' : Hp), H a = none → Same H H' → RowB K rs (n * m) H' a (repL ps m) → Q (.ref a) H') : rBinT (ga K "Row") "int" (spRep K false) E (.ref x) (.int (m : Nat)) H Q := by
  obtain ⟨dx, tx, ix⟩ := hx.ins
  exact ⟨x, dx, _, rfl, ix, rfl, mul_row hx hm h1 k⟩
theorem mulR_row (hx : RowB K rs n H x ps) (hm : n * m ≤ 200) (h1 : m ≤ 1000) (k : ∀ (a : Addr) (H' : Hp), H a = none → Same H H' → RowB K rs (n * m) H' a (repL ps m) → Q (.ref a) H') : rBinRI (ga K "Row") (spRep K false) E (.int (m : Nat)) (.ref x) H Q := by
  obtain ⟨dx, tx, ix⟩ := hx.ins
  exact ⟨(m : Nat), x, dx, _, rfl, rfl, ix, mul_row hx hm h1 k⟩
theorem ints_vals : ∀ {xs : List Int}, (∀ r ∈ xs, rankOk (.int r) = true) → Vals' K H (xs.map V.int) (xs.map fun r => (r, ("" : Str)))
  | [], _ => .nil
  | x :: xs, h => .cons (.int (h x List.mem_cons_self)) (ints_vals fun r hr => h r (List.mem_cons_of_mem _ hr))
theorem asc_ints (h : Asc ps) : Asc ((rk ps).map fun r => (r, ("" : Str))) := by
  unfold Asc rk at *
  rw [List.map_map]
  exact List.pairwise_map.mpr (h.imp fun h => h)
theorem rk_ints (xs : List Int) : rk (xs.map fun r => (r, ("" : Str))) = xs := by
  unfold rk
  rw [List.map_map]
  exact List.map_id' xs
end
end K08
namespace K08
open PySem PySem.Spec PyProof.Rows L2 He Tw
abbrev s_law : Stmt := topS 39
abbrev N_law : List Str := ["_law_script", "_law_pen_here", "_law_turn", "_law_ranks", "_law_pair", "_law_k", "_law_one", "_law_other", "_law_third", "_law_rank", "_law_times"]
theorem sc_law : FnScope N_law ["_law_script"] (defScope s_law) := ⟨rfl, rfl, rfl, by decide +kernel, rfl, by decide +kernel, by decide +kernel⟩
def spLaw (K : Fg) : Sp := fun vs H Q _ => ∃ (a : Addr) (ns : List Int), vs = [.ref a] ∧ SqL K H a (ns.map V.int) ∧ ns.length ≤ 63 ∧ ∀ H', Q (.bl true) H'
theorem rowBN {K : Fg} {H H' : Hp} {p l a : Addr} {c : Nat} {ys : List V} (e : But p H H') (P : PenL H p l c) (h : RowAt K H a ys) : RowAt K H' a ys := by
  obtain ⟨dx, t, h1, h2⟩ := h
  obtain ⟨ns, i, g, q1, _⟩ := P
  exact ⟨dx, t, e _ _ h1 (fun y => by rw [y, q1] at h1; cases h1), e _ _ h2 (fun y => by rw [y, q1] at h2; cases h2)⟩
theorem itsBN {K : Fg} {H H' : Hp} {p l : Addr} {c : Nat} (e : But p H H') (P : PenL H p l c) : ∀ {ys : List V} {ps : List (Int × Str)}, Its K H ys ps → Its K H' ys ps
  | _, _, .nil => .nil
  | _, _, .cons ⟨a, h1, dx, h2⟩ t => .cons ⟨a, h1, dx, e _ _ h2 (fun y => by
    obtain ⟨ns, i, g, q1, _⟩ := P
    rw [y, q1] at h2
    cases h2)⟩ (itsBN e P t)
theorem RowB.but {K : Fg} {rs : List Int} {n : Nat} {H H' : Hp} {a p l : Addr} {c : Nat} {ps : List (Int × Str)} (h : RowB K rs n H a ps) (P : PenL H p l c) (e : But p H H') : RowB K rs n H' a ps := by
  obtain ⟨ys, h1, h2⟩ := h.at_
  exact ⟨⟨ys, rowBN e P h1, itsBN e P h2⟩, h.asc, h.few, h.rn⟩
/-- each rank once -/
def dd (xs : List Int) : Nat → List Int
  | 0 => []
  | n + 1 => if n = 0 ∨ xs.getD n 0 ≠ xs.getD (n - 1) 0 then dd xs n ++ [xs.getD n 0] else dd xs n
theorem dd_ok {xs : List Int} (up : ∀ m, m + 1 < xs.length → xs.getD m 0 ≤ xs.getD (m + 1) 0) : ∀ {n : Nat}, n ≤ xs.length → (dd xs n).Pairwise (· < ·) ∧ (∀ r ∈ dd xs n, r ∈ xs ∧ r ≤ xs.getD (n - 1) 0) ∧ (dd xs n).length ≤ n
  | 0, _ => ⟨.nil, (fun r h => nomatch h), Nat.le_refl _⟩
  | n + 1, h => by
    obtain ⟨h1, h2, h3⟩ := dd_ok up (n := n) (by omega)
    have hm : xs.getD n 0 ∈ xs := by
      rw [List.getD_eq_getElem?_getD, List.getElem?_eq_getElem (show n < xs.length by omega)]
      exact List.getElem_mem _
    have le : ∀ r ∈ dd xs n, r ≤ xs.getD n 0 := fun r hr => by
      cases n with
      | zero => cases hr
      | succ m => exact Int.le_trans (h2 r hr).2 (up m (by omega))
    unfold dd
    split
    · rename_i hc
      refine ⟨List.pairwise_append.mpr ⟨h1, List.pairwise_singleton _ _, fun r hr s hs => ?_⟩, fun r hr => ?_, ?_⟩
      · rw [List.mem_singleton.mp hs]
        have := le r hr
        cases n with
        | zero => cases hr
        | succ m =>
          have q := (h2 r hr).2
          have u := up m (by omega)
          simp only [Nat.add_sub_cancel] at q hc
          omega
      · rcases List.mem_append.mp hr with hr | hr
        · exact ⟨(h2 r hr).1, le r hr⟩
        · rw [List.mem_singleton.mp hr]
          exact ⟨hm, Int.le_refl _⟩
      · rw [List.length_append, List.length_singleton]; omega
    · exact ⟨h1, fun r hr => ⟨(h2 r hr).1, le r hr⟩, by omega⟩
section
variable {P : Program} {w : World} {K : Fg} {mg : Str → Option Value} {base : Heap} {fd : Nat → FuncData}
theorem G_law (D : DefsK K fd) (T : Txt K mg) : FnG P w K mg base CX0 16 (ga K "law") (fd 43) ["_law_script"] (spLaw K) := by
  have zr : mg "range" = none := T.bl (by decide +kernel)
  have zlen : mg "len" = none := T.bl (by decide +kernel)
  have zsum : mg "sum" = none := T.bl (by decide +kernel)
  have gR : mg "Row" = some (.ref (ga K "Row")) := T.cl (by decide +kernel)
  have g_pen := T.fn (x := "_law_pen") (by decide +kernel)
  have g_draw := T.fn (x := "_law_draw") (by decide +kernel)
  have g_pick := T.fn (x := "_law_pick") (by decide +kernel)
  have g_pairs := T.fn (x := "_law_pairs") (by decide +kernel)
  have g_row := T.fn (x := "_law_row") (by decide +kernel)
  have g_nums := T.fn (x := "_law_numbers_right") (by decide +kernel)
  have g_pright := T.fn (x := "_law_pairs_right") (by decide +kernel)
  have g_three := T.fn (x := "_law_three_right") (by decide +kernel)
  have g_by := T.fn (x := "by_rank") (by decide +kernel)
  have F_pen : FnP K "_law_pen" "_law_pen" s_pen (ga K "_law_pen") (fd 33) := D 33 _ rfl
  have F_draw : FnP K "_law_draw" "_law_draw" s_draw (ga K "_law_draw") (fd 34) := D 34 _ rfl
  have F_pick : FnP K "_law_pick" "_law_pick" s_pick (ga K "_law_pick") (fd 35) := D 35 _ rfl
  have F_pairs : FnP K "_law_pairs" "_law_pairs" s_pairs (ga K "_law_pairs") (fd 36) := D 36 _ rfl
  have F_row : FnP K "_law_row" "_law_row" s_lrow (ga K "_law_row") (fd 39) := D 39 _ rfl
  have F_nums : FnP K "_law_numbers_right" "_law_numbers_right" s_nums (ga K "_law_numbers_right") (fd 40) := D 40 _ rfl
  have F_pright : FnP K "_law_pairs_right" "_law_pairs_right" s_pright (ga K "_law_pairs_right") (fd 41) := D 41 _ rfl
  have F_three : FnP K "_law_three_right" "_law_three_right" s_three (ga K "_law_three_right") (fd 42) := D 42 _ rfl
  have F_law : FnP K "law" "law" s_law (ga K "law") (fd 43) := D 43 _ rfl
  have F_eq : FnP K "__eq__" "Row.__eq__" s_eqr (ma K (ga K "Row") "__eq__") (fd 44) := D 44 _ rfl
  have F_rks : FnP K "ranks" "Row.ranks" s_rks (ma K (ga K "Row") "ranks") (fd 45) := D 45 _ rfl
  have F_num : FnP K "number" "Row.number" s_numr (ma K (ga K "Row") "number") (fd 46) := D 46 _ rfl
  have F_blk : FnP K "blocks" "Row.blocks" s_blk (ma K (ga K "Row") "blocks") (fd 47) := D 47 _ rfl
  have F_wit : FnP K "within" "Row.within" s_wit (ma K (ga K "Row") "within") (fd 48) := D 48 _ rfl
  have F_len : FnP K "__len__" "Row.__len__" s_len (ma K (ga K "Row") "__len__") (fd 22) := D 22 _ rfl
  have F_by : FnP K "by_rank" "by_rank" s_by (ga K "by_rank") (fd 28) := D 28 _ rfl
  have G_pen : FnOk P w K mg base CX0 1 _ (fd 33) ["_law_script"] (spPenL K) := ok_pen F_pen T
  have G_draw : FnOk P w K mg base CX0 1 _ (fd 34) ["_law_pen_here", "_law_many"] spDrawL := ok_draw F_draw T
  have G_pairs : FnOk P w K mg base CX0 3 _ (fd 36) ["_law_pen_here", "_law_most"] spPairs := ok_pairs F_pairs F_draw g_draw F_pick g_pick T
  have G_lrow : FnOk P w K mg base CX0 8 _ (fd 39) ["_law_pen_here", "_law_ranks"] (spLRow K) := ok_lrow D F_row F_draw g_draw F_pick g_pick T
  have G_nums : FnOk P w K mg base CX0 12 _ (fd 40) ["_law_one", "_law_other", "_law_rank"] (spNums K) := ok_nums (fN := 0) (fK := 0) D F_nums F_num F_rks T
  have G_wit : FnOk P w K mg base CX0 9 _ (fd 48) ["self", "other"] (spWithin K) := ok_within F_wit F_blk F_by g_by F_num F_rks T
  have b_wit : Binds K (fd 48) ["self", "other"] [] := F_wit.bindsN fun _ _ _ _ _ _ us hl => match us, hl with | [_, _], _ => rfl
  have G_pright : FnG P w K mg base CX0 12 _ (fd 41) ["_law_one", "_law_other"] (spPRight K) := ok_pright D F_pright F_eq F_rks F_len G_wit b_wit T
  have G_three : FnOk P w K mg base CX0 12 _ (fd 42) ["_law_one", "_law_other", "_law_third"] (spThree K) := ok_three D F_three F_eq F_rks G_wit b_wit T
  have G_blk : FnW P w K mg base 2 _ (fd 47) ["self"] (spBlk K) := ok_blk F_blk F_by g_by T
  have G_len : FnOk P w K mg base CX0 1 _ (fd 22) ["self"] (spLen K) := ok_len F_len T
  have G_rks : FnOk P w K mg base CX0 1 _ (fd 45) ["self"] (spRanks K) := ok_rks F_rks T
  have G_eq : FnOk P w K mg base CX0 2 _ (fd 44) ["self", "other"] (spEqB K) := ok_eqb F_eq F_rks T
  have Gr : FnOk P w K mg base (L2.CX P w) 6 (ma K (ga K "Row") "__init__") (fd 6) ["self", "items"] (spRow K) := G_row D T
  obtain ⟨dR, rR, bR0⟩ : ∃ d2, Vals [.ref (nilAt K)] d2 ∧ Binds K (fd 6) ["self", "items"] d2 := by
    obtain ⟨d2, r2, b2⟩ := FunD.binds1 (ps := ["self", "items"]) (show FRow K fd from D 6 _ rfl) 1 0 (fun z => nomatch z) rfl fun _ _ _ _ _ _ _ us its h1 h2 => match us, h1, its, h2 with
      | [_], _, [_], _ => ⟨_, rfl, rfl⟩
    exact ⟨d2, r2, b2⟩
  have b_pen : Binds K (fd 33) ["_law_script"] [] := F_pen.bindsN fun _ _ _ _ _ _ us hl => match us, hl with | [_], _ => rfl
  have b_draw : Binds K (fd 34) ["_law_pen_here", "_law_many"] [] := F_draw.bindsN fun _ _ _ _ _ _ us hl => match us, hl with | [_, _], _ => rfl
  have b_pairs : Binds K (fd 36) ["_law_pen_here", "_law_most"] [] := F_pairs.bindsN fun _ _ _ _ _ _ us hl => match us, hl with | [_, _], _ => rfl
  have b_row : Binds K (fd 39) ["_law_pen_here", "_law_ranks"] [] := F_row.bindsN fun _ _ _ _ _ _ us hl => match us, hl with | [_, _], _ => rfl
  have b_nums : Binds K (fd 40) ["_law_one", "_law_other", "_law_rank"] [] := F_nums.bindsN fun _ _ _ _ _ _ us hl => match us, hl with | [_, _, _], _ => rfl
  have b_pright : Binds K (fd 41) ["_law_one", "_law_other"] [] := F_pright.bindsN fun _ _ _ _ _ _ us hl => match us, hl with | [_, _], _ => rfl
  have b_three : Binds K (fd 42) ["_law_one", "_law_other", "_law_third"] [] := F_three.bindsN fun _ _ _ _ _ _ us hl => match us, hl with | [_, _, _], _ => rfl
  have b_blk : Binds K (fd 47) ["self"] [] := F_blk.bindsN fun _ _ _ _ _ _ us hl => match us, hl with | [_], _ => rfl
  have b_len : Binds K (fd 22) ["self"] [] := F_len.bindsN fun _ _ _ _ _ _ us hl => match us, hl with | [_], _ => rfl
  have b_rks : Binds K (fd 45) ["self"] [] := F_rks.bindsN fun _ _ _ _ _ _ us hl => match us, hl with | [_], _ => rfl
  have b_eq : Binds K (fd 44) ["self", "other"] [] := F_eq.bindsN fun _ _ _ _ _ _ us hl => match us, hl with | [_, _], _ => rfl
  have b_mul : Binds K (fd 20) ["self", "other"] [] := (show FnP K "__mul__" "Row.__mul__" s_mul (ma K (ga K "Row") "__mul__") (fd 20) from D 20 _ rfl).bindsN fun _ _ _ _ _ _ us hl => match us, hl with | [_, _], _ => rfl
  have b_rmul : Binds K (fd 21) ["self", "other"] [] := (show FnP K "__rmul__" "Row.__rmul__" s_rmul (ma K (ga K "Row") "__rmul__") (fd 21) from D 21 _ rfl).bindsN fun _ _ _ _ _ _ us hl => match us, hl with | [_, _], _ => rfl
  have mE := T.mtR2 (m := "__eq__") (by decide +kernel)
  have mK := T.mtR2 (m := "ranks") (by decide +kernel)
  have mB := T.mtR2 (m := "blocks") (by decide +kernel)
  have mL := T.own (m := "__len__") (by decide +kernel)
  refine F_law.okG sc_law (fun vs H Q E h => ?_) (fun cdv A outer s H vs Q E hr hg h => ?_)
  · obtain ⟨a, ns, rfl, _⟩ := h
    rfl
  · obtain ⟨a0, ns, rfl, hS, hn, k⟩ := h
    refine ⟨_, PSs.nox (pss_cons (ps_set (i := 1) sc_law.nd rfl (Or.inl rfl) (pe_call (E := E0) G_pen (hr.mono (by decide)) rfl g_pen F_pen.kp b_pen .nil pass0 (pa_cons (pv 0) pa_nil)))
    (pss_cons (ps_for PassesOwn.never rfl (pi_range1 rfl zr (pa_cons pe_int pa_nil)) (pg_name (i := 2) sc_law.nd rfl (Or.inl rfl))
    (pss_cons (ps_set (i := 3) sc_law.nd rfl (Or.inr rfl) (pe_lc (own := [("_law_pair", 4)]) (g := gName 4) (tt := tYes) (by rfl) sc_law.nd (pi_list (pe_call (E := E0) G_pairs (hr.mono (by decide)) rfl g_pairs F_pairs.kp b_pairs .nil pass0 (pa_cons (pv 1) (pa_cons pe_int pa_nil)))) (blkOk_by (own := [("_law_pair", 4)]) (N := N_law) (sc := defScope s_law) (by decide +kernel)) (fun _ _ _ _ _ => (pg_name (i := 4) sc_law.nd rfl (Or.inl rfl))) (fun _ _ _ _ _ => pts_nil) (fun _ _ _ _ _ => (pe_ix (ixt K) (pv 4) pe_int (fun _ _ => rfl)))))
    (pss_cons (ps_set (i := 3) sc_law.nd rfl (Or.inr rfl) (pe_lc (own := [("_law_k", 5)]) (g := gName 5) (by rfl) sc_law.nd (pi_range1 rfl zr (pa_cons (pe_callB call_len (by rfl) zlen (by decide +kernel) (pa_cons (pv 3) pa_nil)) pa_nil)) (blkOk_by (own := [("_law_k", 5)]) (N := N_law) (sc := defScope s_law) (by decide +kernel)) (fun _ _ _ _ _ => (pg_name (i := 5) sc_law.nd rfl (Or.inl rfl))) (fun _ _ _ _ _ => pts_one (PW.pt (pw_or (pt_cmpR op_eq (pv 5) pe_int (nomark _)) (pw_or1 (pt_cmpR op_ne (pe_ix (ixl K) (pv 3) (pv 5) (fun _ _ => rfl)) (pe_ix (ixl K) (pv 3) (pe_op op_sub (pv 5) pe_int) (fun _ _ => rfl)) (nomark _)))))) (fun _ _ _ _ _ => (pe_ix (ixl K) (pv 3) (pv 5) (fun _ _ => rfl)))))
    (pss_cons (ps_par3 (i := 6) (j := 7) (l := 8) (by rfl) sc_law.nd rfl rfl rfl (by decide) (by decide) (by decide) rfl rfl rfl (pa_cons (pe_call (E := E0) G_lrow (hr.mono (by decide)) rfl g_row F_row.kp b_row .nil pass0 (pa_cons (pv 1) (pa_cons (pv 3) pa_nil))) (pa_cons (pe_call (E := E0) G_lrow (hr.mono (by decide)) rfl g_row F_row.kp b_row .nil pass0 (pa_cons (pv 1) (pa_cons (pe_slice sl_listN (pv 3) (po_some pe_int) po_none) pa_nil))) (pa_cons (pe_call (E := E0) G_lrow (hr.mono (by decide)) rfl g_row F_row.kp b_row .nil pass0 (pa_cons (pv 1) (pa_cons (pv 3) pa_nil))) pa_nil))) (by rfl))
    (pss_mid (ps_if (pt_cmpR op_eq (pe_call (E := E0) G_draw (hr.mono (by decide)) rfl g_draw F_draw.kp b_draw .nil pass0 (pa_cons (pv 1) (pa_cons pe_int pa_nil))) pe_int (nomark _)) (pss_one (ps_set (i := 7) sc_law.nd rfl (Or.inl rfl) (pe_op (opo_or (E := E0) D T (hr.mono (by decide)) passL) (pv 6) (pv 7)))) pss_nil)
    (pss_cons (ps_for PassesOwn.never rfl (pi_list (pe_op op_catN (pv 3) (pe_lstN (pa_cons pe_int pa_nil)))) (pg_name (i := 9) sc_law.nd rfl (Or.inl rfl))
    (pss_one (ps_if (pt_not (pt_val (pe_call (E := E0) G_nums (hr.mono (by decide)) rfl g_nums F_nums.kp b_nums .nil pass0 (pa_cons (pv 6) (pa_cons (pv 7) (pa_cons (pv 9) pa_nil)))))) (pss_one (ps_ret pe_bl)) pss_nil)))
    (pss_cons (ps_if (PW.pt (pw_or (pt_not (pt_val (pe_callG (E := E0) G_pright (hr.mono (by decide)) hg rfl g_pright F_pright.kp b_pright .nil pass0 (pa_cons (pv 6) (pa_cons (pv 7) pa_nil))))) (pw_or1 (pt_not (pt_val (pe_callG (E := E0) G_pright (hr.mono (by decide)) hg rfl g_pright F_pright.kp b_pright .nil pass0 (pa_cons (pv 7) (pa_cons (pv 8) pa_nil)))))))) (pss_one (ps_ret pe_bl)) pss_nil)
    (pss_cons (ps_if (pt_not (pt_val (pe_call (E := E0) G_three (hr.mono (by decide)) rfl g_three F_three.kp b_three .nil pass0 (pa_cons (pv 6) (pa_cons (pv 7) (pa_cons (pv 8) pa_nil)))))) (pss_one (ps_ret pe_bl)) pss_nil)
    (pss_cons (ps_set (i := 10) sc_law.nd rfl (Or.inl rfl) (pe_call (E := E0) G_draw (hr.mono (by decide)) rfl g_draw F_draw.kp b_draw .nil pass0 (pa_cons (pv 1) (pa_cons pe_int pa_nil))))
    (pss_cons (ps_if (PW.pt (pw_or (pt_not (pt_cmpR (op_eqOwn (E := E0) mE.at_ mE.fn G_eq (hr.mono (by decide)) b_eq pass0) (pe_op (opo_add (E := E0) D T (hr.mono (by decide)) passL) (pe_op (op_binT (E := E0) (op := .Mult) (T := "int") (T.own (m := "__mul__") (by decide +kernel)) T.mulT (ok_mul D T) (hr.mono (by decide)) b_mul passL) (pv 6) (pv 10)) (pv 6)) (pe_op (op_binRI (E := E0) (T.own (m := "__rmul__") (by decide +kernel)) (T.own (m := "__mul__") (by decide +kernel)) T.mulT T.mulS (ok_rmul D T) (hr.mono (by decide)) b_rmul passL) (pe_op op_add (pv 10) pe_int) (pv 6)) (nomark _)))
      (pw_or1 (pt_not (pt_cmpR (op_eqOwn (E := E0) mE.at_ mE.fn G_eq (hr.mono (by decide)) b_eq pass0) (pe_op (op_binT (E := E0) (op := .Mult) (T := "int") (T.own (m := "__mul__") (by decide +kernel)) T.mulT (ok_mul D T) (hr.mono (by decide)) b_mul passL) (pv 6) pe_int) (pe_make0 (E := E0) T.mkR Gr (hr.mono (by decide)) rfl gR bR0 rR passL) (nomark _)))))) (pss_one (ps_ret pe_bl)) pss_nil)
    (pss_one (ps_if (PW.pt (pw_or (pt_cmpR op_ne (pe_callB (cr_sum rfl) (by rfl) zsum (by decide +kernel) (pa_cons (pe_lcG (k := 3) (own := [("_law_pair", 4)]) (g := gName 4) (tt := tYes) (by rfl) (hr.mono (by decide)) sc_law.nd (pig_meth0 (pv 6) T.clsR mB G_blk (hr.mono (by decide)) b_blk .nil) (blkOk_by (own := [("_law_pair", 4)]) (N := N_law) (sc := defScope s_law) (by decide +kernel)) (fun _ _ _ _ _ => (pg_name (i := 4) sc_law.nd rfl (Or.inl rfl))) (fun _ _ _ _ _ => pts_nil) (fun _ _ _ _ _ => (pe_ix (ixt K) (pv 4) pe_int (fun _ _ => rfl)))) pa_nil))
      (pe_callB (call_lenOwn (E := E0) mL.at_ mL.fn G_len (hr.mono (by decide)) b_len pass0) (by rfl) zlen (by decide +kernel) (pa_cons (pv 6) pa_nil)) (nomark _))
      (pw_or1 (pt_not (pt_cmpR (op_eqOwn (E := E0) mE.at_ mE.fn G_eq (hr.mono (by decide)) b_eq pass0) (pe_make (E := E0) T.mkR Gr (hr.mono (by decide)) rfl gR (bRow D) .nil passL (pa_cons (pe_meth0 (E := E0) (pv 6) T.clsR mK G_rks (hr.mono (by decide)) b_rks .nil pass0) pa_nil)) (pv 6) (nomark _)))))) (pss_one (ps_ret pe_bl)) pss_nil))))))))))))
    (pss_one (ps_ret pe_bl)))), ?_⟩
    refine ⟨_, rfl, a0, ns, rfl, hS, hn, fun p l H1 f1 P1 s1 => ?_⟩
    refine ⟨4, rfl, by decide, by decide, for_range (n := 4) (fun i σ H' => ∃ v2 v3 v6 v7 v8 v9 v10 : Option V, σ = [some (.ref a0), some (.ref p), v2, v3, none, none, v6, v7, v8, v9, v10] ∧ PenL H' p l (1000 * i)) ⟨none, none, none, none, none, none, none, rfl, P1⟩ ?_ ?_⟩
    rotate_left
    · rintro σ G0 ⟨v2, v3, v6, v7, v8, v9, v10, rfl, P0⟩
      exact k G0
    rintro i σ G0 hi ⟨v2, v3, v6, v7, v8, v9, v10, rfl, P0⟩
    dsimp only [gName]
    refine ⟨_, rfl, p, l, 6, _, rfl, by decide, P0, by omega, fun f G1 ts ps P1 B1 f1 f2 gf Pr lp up gd => ⟨f, rfl, ⟨ts, SqL.of gf⟩, fun D1 hD1 => lc_list (K := K) (a := f) (xs := ts) (fun i H' => Same G1 H' ∧ H' D1 = some (.lst (((rk ps).take i).map V.int))) ⟨same_new hD1, upd_same⟩ (fun i H' _ q => SqL.of (q.1 _ _ gf)) ?_ ?_⟩⟩
    · rintro j x H' hx ⟨sD, gD⟩
      obtain ⟨t, q, rfl, eq, ht⟩ := prs_at Pr hx
      refine ⟨rfl, _, rfl, t, _, 0, .int q.1, rfl, rfl, SqT.of (sD _ _ ht), rfl, _, gD, ?_, same_upd sD hD1, ?_⟩
      · rw [List.length_map]
        exact Nat.lt_of_le_of_lt (List.length_take_le' _ _) (Nat.lt_of_le_of_lt (show (rk ps).length ≤ 6 by unfold rk; rw [List.length_map]; exact lp) (by decide))
      · rw [upd_same, List.take_add_one, show (rk ps)[j]? = some q.1 by unfold rk; rw [List.getElem?_map, eq]; rfl, Option.toList_some, List.map_append]
        rfl
    rintro G2 ⟨s2, g2⟩
    have lt : ts.length = ps.length := Paired.length Pr
    have lr : (rk ps).length = ps.length := by unfold rk; rw [List.length_map]
    rw [List.take_of_length_le (by omega)] at g2
    have upr : ∀ m, m + 1 < (rk ps).length → (rk ps).getD m 0 ≤ (rk ps).getD (m + 1) 0 := fun m hm => by
      have e1 : ps[m]? = some ps[m] := List.getElem?_eq_getElem (by omega)
      have e2 : ps[m + 1]? = some ps[m + 1] := List.getElem?_eq_getElem (by omega)
      have := up m _ _ (by omega) e1 e2
      unfold rk
      rw [List.getD_eq_getElem?_getD, List.getD_eq_getElem?_getD, List.getElem?_map, List.getElem?_map, e1, e2]
      exact this
    dsimp only [gName]
    unfold tSeq
    refine ⟨_, rfl, .ref D1, (rk ps).length, rfl, .inl ⟨_, SqL.of g2, by rw [List.length_map]⟩, (rk ps).length, rfl, by omega, by omega, fun D2 hD2 => lc_range (n := (rk ps).length) (fun j H' => Same G2 H' ∧ H' D2 = some (.lst ((dd (rk ps) j).map V.int))) ⟨same_new hD2, upd_same⟩ ?_ ?_⟩
    · rintro j H' hj ⟨sD, gD⟩
      have g2' := sD _ _ g2
      have at_ : ∀ m : Nat, m < (rk ps).length → atI ((rk ps).map V.int) (m : Int) = some (V.int ((rk ps).getD m 0)) := fun m hm => atI_nat (by rw [List.getElem?_map, List.getElem?_eq_getElem hm, List.getD_eq_getElem?_getD, List.getElem?_eq_getElem hm]; rfl)
      have le6 := (dd_ok upr (n := j) (by omega)).2.2
      have sz : ((dd (rk ps) j).map V.int).length < sizeLine := by
        rw [List.length_map]
        exact Nat.lt_of_le_of_lt le6 (Nat.lt_of_lt_of_le hj (Nat.le_trans (show (rk ps).length ≤ 1000 by omega) (by decide)))
      have take : (j = 0 ∨ (rk ps).getD j 0 ≠ (rk ps).getD (j - 1) 0) → dd (rk ps) (j + 1) = dd (rk ps) j ++ [(rk ps).getD j 0] := fun hc => by
        rw [dd]; exact if_pos hc
      have skip : ¬ (j = 0 ∨ (rk ps).getD j 0 ≠ (rk ps).getD (j - 1) 0) → dd (rk ps) (j + 1) = dd (rk ps) j := fun hc => by
        rw [dd]; exact if_neg hc
      rw [show (0 : Int) + ((j : Nat) : Int) = ((j : Nat) : Int) by omega]
      refine ⟨rfl, _, rfl, rfl, _, rfl, ?_⟩
      have fin : (j = 0 ∨ (rk ps).getD j 0 ≠ (rk ps).getD (j - 1) 0) → ∃ acc, H' D2 = some (.lst acc) ∧ acc.length < sizeLine ∧ Same G2 (upd H' D2 (.lst (acc ++ [.int ((rk ps).getD j 0)]))) ∧ upd H' D2 (.lst (acc ++ [.int ((rk ps).getD j 0)])) D2 = some (.lst ((dd (rk ps) (j + 1)).map V.int)) := fun hc =>
        ⟨_, gD, sz, same_upd sD hD2, by rw [upd_same, take hc, List.map_append]; rfl⟩
      by_cases hj0 : j = 0
      · show if decide (V.int (j : Int) = V.int 0) = true then _ else _
        rw [if_pos (by rw [hj0]; rfl)]
        exact ⟨_, rfl, _, rfl, D1, _, (j : Int), _, rfl, rfl, SqL.of g2', at_ j hj, fin (.inl hj0)⟩
      · show if decide (V.int (j : Int) = V.int 0) = true then _ else _
        rw [if_neg (by rw [decide_eq_true_eq]; intro z; have := V.int.inj z; omega)]
        refine ⟨_, rfl, _, rfl, D1, _, (j : Int), _, rfl, rfl, SqL.of g2', at_ j hj, _, rfl, _, rfl, _, _, rfl, rfl, D1, _, ((j - 1 : Nat) : Int), _, rfl, ?_, SqL.of g2', at_ (j - 1) (by omega), rfl, _, rfl, ?_⟩
        · show V.int (((j : Nat) : Int) - 1) = _
          rw [show ((j : Nat) : Int) - 1 = ((j - 1 : Nat) : Int) by omega]
        · by_cases he : (rk ps).getD j 0 = (rk ps).getD (j - 1) 0
          · rw [he, decide_eq_true rfl]
            refine iteF ⟨sD, ?_⟩
            rw [skip (fun z => z.elim hj0 fun z => z he)]
            exact gD
          · rw [decide_eq_false (fun z => he (V.int.inj z))]
            exact ⟨_, rfl, _, rfl, D1, _, (j : Int), _, rfl, rfl, SqL.of g2', at_ j hj, fin (.inr he)⟩
    rintro G3 ⟨s3, g3⟩
    obtain ⟨dp, dm, dl⟩ := dd_ok upr (n := (rk ps).length) (Nat.le_refl _)
    generalize dd (rk ps) (rk ps).length = rs at g3 dp dm dl
    have rl : rs.length ≤ 6 := by omega
    have rok : ∀ r ∈ rs, rankOk (.int r) = true := fun r hr => by
      obtain ⟨q, hq, e⟩ := List.mem_map.mp (dm r hr).1
      rw [← e]; exact gd_rank (gd q hq)
    have P3 := (P1.same s2).same s3
    have np : D2 ≠ p := ((P1.same s2).new hD2).1
    have h64 : rs.length < 64 := by omega
    have few : ∀ {G : Hp} {x : Addr} {us : List (Int × Str)} {ss : List Int}, RowB K ss 48 G x us → us.length ≤ 4 * ss.length → (∀ r ∈ ss, r ∈ rs) → ss.length ≤ 6 → RowB K rs 24 G x us := fun h e sub le => ⟨h.at_, h.asc, by omega, fun r hr => sub r (h.rn r hr)⟩
    refine ⟨_, rfl, _, rfl, p, l, D2, _, rs, rfl, P3, by omega, g3, np, dp, by omega, rok, fun x1 G4 ps1 P4 B4 R4 l4 => ?_⟩
    have g4 := B4 _ _ g3 np
    refine ⟨_, rfl, _, rfl, 1, rfl, D2, _, rfl, SqL.of g4, fun q5 G5 f5 s5 g5 => ?_⟩
    have g5' : G5 q5 = some (.lst ((rs.drop 1).map V.int)) := by rw [g5, show ((1 : Int)) = ((1 : Nat) : Int) from rfl, cutDrop, List.map_drop]
    have P5 := P4.same s5
    refine ⟨p, l, q5, _, rs.drop 1, rfl, P5, by omega, g5', (P4.new f5).1, dp.sublist (List.drop_sublist _ _), by rw [List.length_drop]; omega, fun r hr => rok r (List.mem_of_mem_drop hr), fun x2 G6 ps2 P6 B6 R6 l6 => ?_⟩
    have g6 := B6 _ _ (s5 _ _ g4) np
    refine ⟨_, rfl, _, rfl, p, l, D2, _, rs, rfl, P6, by omega, g6, np, dp, by omega, rok, fun x3 G7 ps3 P7 B7 R7 l7 => ?_⟩
    have g7 := B7 _ _ g6 np
    have A1 : RowB K rs 24 G7 x1 ps1 := ((few R4 l4 (fun _ h => h) rl).same s5 |>.but P5 B6).but P6 B7
    have A2 : RowB K rs 24 G7 x2 ps2 := (few R6 l6 (fun r h => List.mem_of_mem_drop h) (by rw [List.length_drop]; omega)).but P6 B7
    have A3 : RowB K rs 24 G7 x3 ps3 := few R7 l7 (fun _ h => h) rl
    refine ⟨_, _, _, rfl, ?_⟩
    clear R4 R6 R7 g5 g5' P4 P5 P6 P3 g3 g4 g6 B4 B6 B7 s5
    unfold tMid
    refine ⟨fun σ G => ∃ (y : Addr) (qs : List (Int × Str)), σ = [some (.ref a0), some (.ref p), some (.int (0 + (i : Nat))), some (.ref D2), none, none, some (.ref x1), some (.ref y), some (.ref x3), v9, v10] ∧ PenL G p l (1000 * i + 600) ∧ RowB K rs 24 G x1 ps1 ∧ RowB K rs 48 G y qs ∧ RowB K rs 24 G x3 ps3 ∧ G D2 = some (.lst (rs.map V.int)), ?_, ?_⟩
    · refine ⟨_, rfl, p, l, 3, _, rfl, by decide, by decide, P7, by omega, fun r G8 r0 r1 P8 B8 => ⟨rfl, _, rfl, ?_⟩⟩
      have g8 := B8 _ _ g7 np
      have A1 := A1.but P7 B8
      have A2 := A2.but P7 B8
      have A3 := A3.but P7 B8
      by_cases hr0 : r = 0
      · rw [hr0, decide_eq_true rfl]
        exact ⟨_, rfl, _, rfl, op_row T h64 A1 A2 (by decide) fun y G9 us9 f9 s9 R9 c9 => ⟨y, us9, rfl, (P8.mono (by omega)).same s9, A1.same s9, R9, A3.same s9, s9 _ _ g8⟩⟩
      · rw [decide_eq_false (fun z => hr0 (V.int.inj z))]
        exact ⟨x2, ps2, rfl, P8.mono (by omega), A1, A2.mono (by decide), A3, g8⟩
    rintro σ G ⟨y, qs, rfl, P8, A1, A2, A3, g8⟩
    refine ⟨_, rfl, sz1000 (by show 1 ≤ 1000; decide), fun q9 G9 f9 n9 s9 g9 => ⟨D2, q9, _, _, rfl, rfl, s9 _ _ g8, g9, sz1000 (by rw [List.length_map]; show rs.length + 1 ≤ 1000; omega), fun q10 G10 f10 n10 s10 g10 => ⟨q10, rfl, ⟨_, SqL.of g10⟩, ?_⟩⟩⟩
    have s810 := s9.trans s10
    refine for_list (K := K) (a := q10) (xs := rs.map V.int ++ [V.int 12345]) (fun _ σ G' => ∃ v9 : Option V, σ = [some (.ref a0), some (.ref p), some (.int (0 + (i : Nat))), some (.ref D2), none, none, some (.ref x1), some (.ref y), some (.ref x3), v9, v10] ∧ PenL G' p l (1000 * i + 600) ∧ RowB K rs 24 G' x1 ps1 ∧ RowB K rs 48 G' y qs ∧ RowB K rs 24 G' x3 ps3 ∧ G' q10 = some (.lst (rs.map V.int ++ [V.int 12345])))
      ⟨v9, rfl, P8.same s810, A1.same s810, A2.same s810, A3.same s810, g10⟩ (fun j σ G' _ ⟨_, _, _, _, _, _, g⟩ => SqL.of g) ?_ ?_
    · rintro j x σ G' hx ⟨v9, rfl, P9, A1, A2, A3, gq⟩
      obtain ⟨r, rfl⟩ : ∃ r : Int, x = .int r := by
        rcases List.mem_append.mp (List.mem_of_getElem? hx) with h | h
        · obtain ⟨r, _, e⟩ := List.mem_map.mp h
          exact ⟨r, e.symm⟩
        · exact ⟨_, List.mem_singleton.mp h⟩
      exact ⟨_, rfl, _, rfl, _, rfl, x1, y, r, rs, ps1, qs, rfl, h64, A1.mono (by decide), A2.mono (by decide), fun G11 s11 => ⟨_, rfl, iteF ⟨_, rfl, P9.same s11, A1.same s11, A2.same s11, A3.same s11, s11 _ _ gq⟩⟩⟩
    rintro σ G' ⟨v9, rfl, P9, A1, A2, A3, gq⟩
    clear g8 f9 n9 s9 g9 f10 n10 s10 g10 s810 P8
    refine ⟨_, rfl, _, rfl, x1, y, rs, ps1, qs, rfl, h64, A1.mono (by decide), A2, fun Ga sa => ⟨_, rfl, iteF ⟨_, rfl, _, rfl, y, x3, rs, qs, ps3, rfl, h64, A2.same sa, (A3.mono (by decide)).same sa, fun Gb sb => ⟨_, rfl, iteF ?_⟩⟩⟩⟩
    have B1 := (A1.same sa).same sb
    have B2 := (A2.same sa).same sb
    have B3 := (A3.same sa).same sb
    refine ⟨_, rfl, _, rfl, _, rfl, x1, y, x3, rs, ps1, qs, ps3, rfl, h64, B1.mono (by decide), B2, B3.mono (by decide), fun Gc sc => ⟨_, rfl, iteF ?_⟩⟩
    have Pc := ((P9.same sa).same sb).same sc
    refine ⟨_, rfl, p, l, 4, _, rfl, by decide, by decide, Pc, by omega, fun t Gd t0 t1 Pd Bd => ?_⟩
    obtain ⟨m, rfl, hm⟩ : ∃ m : Nat, t = (m : Int) ∧ m ≤ 3 := ⟨t.toNat, by omega, by omega⟩
    have C1 := (B1.same sc).but Pc Bd
    clear A1 A2 A3 B1 B2 B3 sa sb sc Bd Pc gq P9
    have hm24 : 24 * m ≤ 72 := by omega
    dsimp only [gName]
    refine ⟨_, rfl, _, rfl, mulT_row C1 (by omega) (by omega) fun a1 Ge e1 se R1 => ⟨_, rfl, op_row T h64 R1 (C1.same se) (by omega) fun a2 Gf us2 e2 sf R2 c2 => ⟨_, rfl, _, _, rfl, rfl, _, rfl, mulR_row (m := m + 1) ((C1.same se).same sf) (by omega) (by omega) fun a3 Gg e3 sg R3 => eq_row T (R2.same sg) R3 (by omega) (by omega) fun Gh sh => ?_⟩⟩⟩
    have e5 : rk us2 = rk (repL ps1 (m + 1)) := (asc_one R2.asc R3.asc).mpr fun r => by
      rw [c2 r, cnt_repL, cnt_repL]
      simp only [opN_add]
      rw [Nat.succ_mul]
    refine ⟨_, rfl, ?_⟩
    rw [decide_eq_true e5]
    refine iteF ?_
    have C2 := ((((C1.same se).same sf).same sg).same sh)
    have Pe := (((Pd.same se).same sf).same sg).same sh
    clear R1 R2 R3 c2 se sf sg sh C1 Pd
    have src0 : ∀ H, Src K H (nilAt K) [] (([] : List (Int × Str)).map some) := fun H => ⟨.inr (.inl (T.nil H)), by decide, rfl, fun i x h => nomatch h⟩
    refine ⟨_, rfl, mulT_row (m := 0) C2 (by omega) (by omega) fun a4 Gi e4 si R4 => fun a5 da5 h5 hd5 hn5 => row_to h5 hd5 hn5 (src0 _) (fun m a b h => absurd h (Nat.not_lt_zero m)) (by decide) fun Gj ua sj ra ia => ⟨rfl, ?_⟩⟩
    have R5 : RowB K rs 0 Gj a5 [] := ⟨⟨ua, ra, ia⟩, .nil, Nat.le_refl _, (fun r hr => nomatch hr)⟩
    refine eq_row T (R4.same sj) R5 (by decide) (by decide) fun Gk sk => ?_
    have e6 : rk (repL ps1 0) = rk [] := (asc_one R4.asc R5.asc).mpr fun r => by
      rw [cnt_repL, Nat.zero_mul]
      rfl
    refine ⟨_, rfl, ?_⟩
    rw [decide_eq_true e6]
    refine iteF ?_
    have C3 := ((C2.same si).same sj).same sk
    have Pf := ((Pe.same si).same sj).same sk
    clear R4 R5 si sj sk C2 Pe ra ia
    obtain ⟨dx, tx, ix⟩ := C3.ins
    obtain ⟨ys, ry, iy⟩ := C3.at_
    have ly := its_len iy
    have l24 := C3.few
    refine ⟨_, rfl, x1, dx, _, _, _, rfl, ix, rfl, jt_go, jt_st, ⟨x1, ys, ps1, rfl, by omega, rfl, rfl⟩, fun D9 hD9 => lcG_jt (fun j H' => Same Gk H' ∧ H' D9 = some (.lst (((fsts (rk ps1)).take j).map fun r => V.int (cnt r ps1 : Nat)))) ⟨same_new hD9, upd_same⟩ (fun H' q => ⟨ry.same q.1, iy.same q.1⟩) ?_ ?_⟩
    · rintro j T0 xs H2 H3 hj ⟨s2, g2⟩ s3 hT gT ⟨r, hr', rfl⟩
      refine ⟨rfl, _, rfl, T0, _, 1, _, rfl, rfl, SqT.of gT, rfl, _, s3 _ _ g2, ?_, same_upd (s2.trans s3) hD9, ?_⟩
      · rw [List.length_map]
        exact Nat.lt_of_le_of_lt (List.length_take_le' _ _) (Nat.lt_of_le_of_lt (fsts_len _) (Nat.lt_of_le_of_lt (show (rk ps1).length ≤ 24 by unfold rk; rw [List.length_map]; exact l24) (by decide)))
      · rw [upd_same, List.take_add_one, hr', Option.toList_some, List.map_append]
        rfl
    · rintro H2 H3 ⟨s2, g2⟩ s3
      have g3 := s3 _ _ g2
      rw [List.take_of_length_le (Nat.le_refl _)] at g3
      have s23 := s2.trans s3
      refine ⟨D9, (fsts (rk ps1)).map fun r => ((cnt r ps1 : Nat) : Int), rfl, SqL.of (by rw [List.map_map]; exact g3), ?_⟩
      rw [sum_all]
      refine ⟨_, rfl, x1, dx, _, rfl, s23 _ _ ix, x1, ys, rfl, ry.same s23, by omega, ys.length, rfl, by omega, rfl, _, rfl, ?_⟩
      rw [ly, decide_eq_true rfl]
      refine iteF ?_
      have C4 := C3.same s23
      have lr1 : (rk ps1).length = ps1.length := by unfold rk; rw [List.length_map]
      refine ⟨_, rfl, x1, dx, _, rfl, s23 _ _ ix, rfl, x1, ys, ps1, rfl, ry.same s23, iy.same s23, by omega, fun q H4 f4 s4 g4 => fun a6 da6 h6 hd6 hn6 => row_to h6 hd6 hn6 (vals_src (ps := (rk ps1).map fun r => (r, ("" : Str))) (.inl (SqL.of g4)) (ints_vals fun r hr => rok r (C3.rn r hr)) (by rw [List.length_map]; omega)) (asc_up (asc_ints C3.asc)) (by rw [List.length_map]; omega) fun H5 ub s5 rb ib => ⟨rfl, _, rfl, ?_⟩⟩
      have R6 : RowB K rs 24 H5 a6 ((rk ps1).map fun r => (r, ("" : Str))) := ⟨⟨ub, rb, ib⟩, asc_ints C3.asc, by rw [List.length_map]; omega, fun r hr => C3.rn r (by rw [rk_ints] at hr; exact hr)⟩
      refine eq_row T R6 ((C4.same s4).same s5) (by decide) (by decide) fun H6 s6 => ⟨_, rfl, ?_⟩
      rw [decide_eq_true (rk_ints _)]
      refine iteF ⟨_, _, _, _, _, _, _, rfl, (((((Pf.same s23).same s4).same s5).same s6).mono (by omega))⟩
end
end K08
/-! Tw: the law's end with tables of code objects, where no repr runs around. -/
namespace Tw
open PySem PySem.Spec PyProof.Rows L2 LamX
theorem law_tabG {P : Program} {w : World} {K : PySem.W.Frag} {mg mb : Str → Option Value} {CX : CXT} {k : Nat} {fa a : Addr} {cs : List (Addr × Addr)} {fd : FuncData} {x : Str} {sp : Sp} {s0 : Shared} {vs : List Value} {ns : List Int}
    (KX : K.In s0.heap) (hns : s0.heap.Ns mainGlobals mg) (hb : s0.heap.Ns builtinsNs mb) (hbb : ∀ x : Str, x ≠ "__name__" → mb x = bootBuiltins x) (hlim : s0.heap.NoLimit) (hg : s0.gens = #[])
    (hT : ∀ p ∈ cs, s0.heap.get? p.2 = some { cls := .none, data := .fields #[] }) (nT : ∀ p ∈ cs, K.lookup p.2 = none) (C : ∀ p ∈ cs, PySem.W.CodeHd s0.heap p.1 p.2)
    (hbm : ∃ (bm : Addr) (ob : Obj), mg "__builtins__" = some (.ref bm) ∧ bm ≠ builtinsNs ∧ s0.heap.get? bm = some ob ∧ ob.cls = .type "module" ∧ ob.dict = some builtinsNs ∧ ob.data = .plain)
    (ha : s0.heap.get? a = some { cls := .type "list", data := .seq vs.toArray }) (hi : IntsAre vs ns) (hl : ns.length ≤ sizeLine) (hr : Room k callerA)
    (F : ∀ base : Heap, K.In base → base.Ns mainGlobals mg → (∀ p ∈ cs, TabB base mg p.1 p.2) → FnG P w K mg base CX k fa fd [x] sp) (hbind : ∀ (s : Shared) (u : Value), BindsTo s fd ⟨[u], []⟩ [(x, u)])
    (hsp : ∀ H : Hp, (∀ p ∈ cs, H p.2 = some (.tbl #[])) → SqL K H a (ns.map V.int) → sp [.ref a] H (fun v _ => v = .bl true) fun _ _ _ => False)
    (hCX : ∀ H e s', CX [] H s0 (fun _ _ _ => False) e s' → False) :
    codeAny (model P w) callerA (.call (.ref fa) ⟨[.ref a], []⟩) (fun r s' => r = .ok (.ret (.bool true)) ∧ OldK s0.heap s'.heap ∧ s'.os = s0.os ∧ AllBare s'.gens) s0 := by
  have rv := vals_ints hi
  have lenVs := hi.length
  have atTab : ∀ b : Addr, b ∈ cs.map (·.2) → s0.heap.get? b = some { cls := .none, data := .fields #[] } := fun b hb => by
    obtain ⟨p, hp, e⟩ := List.mem_map.mp hb
    rw [← e]
    exact hT p hp
  have notTab : a ∉ cs.map (·.2) := fun z => by
    have q := atTab a z
    rw [ha] at q
    have z' : Data.seq vs.toArray _ = Data.fields #[] := congrArg Obj.data (Option.some.inj q)
    cases z'
  have inTab : ∀ p ∈ cs, p.2 ∈ cs.map (·.2) := fun p hp => List.mem_map.mpr ⟨p, hp, rfl⟩
  -- from an abstract heap in which nothing but the script and the tables may be tracked
  have body : ∀ H : Hp, (∀ p ∈ cs, H p.2 = some (.tbl #[])) → (∀ b, H b = none ∨ b ∈ cs.map (·.2) ∨ ∃ o xs, H b = some (.frz o (.lst xs))) → SqL K H a (ns.map V.int) → HOk P w H s0.heap → (∀ b, H b ≠ none → b = a ∨ b ∈ cs.map (·.2)) → (H a ≠ none → K.lookup a = none) →
      codeAny (model P w) callerA (.call (.ref fa) ⟨[.ref a], []⟩) (fun r s' => r = .ok (.ret (.bool true)) ∧ OldK s0.heap s'.heap ∧ s'.os = s0.os ∧ AllBare s'.gens) s0 := by
    intro H hH hO hS hok hA hK
    have getHid : ∀ {b : Addr} {o : Obj}, s0.heap.get? b = some o → H b = none → (hidT s0.heap H).get? b = some o := fun e n => hidT_get e n
    have noDat : ∀ {b : Addr} {o : Obj}, s0.heap.get? b = some o → (∀ vs n, o.data ≠ .seq vs n) → o.data ≠ .fields #[] → H b = none := fun {b o} e h1 h2 => by
      cases q : H b with
      | none => rfl
      | some u =>
        rcases hA b (by rw [q]; simp) with e' | e'
        · rw [e', ha] at e
          cases e
          exact (h1 _ _ rfl).elim
        · rw [atTab b e'] at e
          cases e
          exact (h2 rfl).elim
    have noDic : ∀ {b : Addr} {o : Obj} {es : Array DictEntry} {ep : Nat}, s0.heap.get? b = some o → o.data = .dict es ep → H b = none := fun {b o es ep} e d => by
      refine noDat e (fun vs n z => ?_) fun z => ?_
      · rw [d] at z
        cases z
      · rw [d] at z
        cases z
    have nsHid : ∀ {b : Addr} {m : Str → Option Value}, s0.heap.Ns b m → (hidT s0.heap H).Ns b m := fun {b m} ⟨o, es, ep, e, d, r⟩ => ⟨o, es, ep, getHid e (noDic e d), d, r⟩
    have kHid : K.In (hidT s0.heap H) := fun b o e => getHid (KX b o e) (by
      cases q : H b with
      | none => rfl
      | some u =>
        rcases hA b (by rw [q]; simp) with e' | e'
        · rw [e'] at e q
          rw [hK (by rw [q]; simp)] at e
          cases e
        · obtain ⟨p, hp, ep⟩ := List.mem_map.mp e'
          rw [← ep, nT p hp] at e
          cases e)
    have hMod : L2.Mod K mg (hidT s0.heap H) := ⟨kHid, nsHid hns, ⟨mb, nsHid hb, hbb⟩, let ⟨mc, h1, h2⟩ := hlim; ⟨mc, nsHid h1, h2⟩⟩
    have TB : ∀ p ∈ cs, TabB (hidT s0.heap H) mg p.1 p.2 := fun p hp => by
      have hTp := hT p hp
      refine ⟨?_, ?_, fun z => ?_⟩
      · obtain ⟨o, us, file, tf, flags, tg, inF, text, tt, e1, r1, r2, r3, r4, r5, r6, r7, r8, hne⟩ := C p hp
        refine ⟨o, us, file, tf, flags, tg, inF, text, tt, getHid e1 (noDat e1 (fun vs n z => ?_) fun z => ?_), r1, r2, r3, r4, r5, r6, r7, r8, hne⟩
        · rw [r2] at z
          cases z
        · rw [r2] at z
          cases z
          simp at r3
      · obtain ⟨bm, ob, b1, b2, b3, b4, b5, b6⟩ := hbm
        have nG : bm ≠ mainGlobals := fun q => by
          obtain ⟨o, es, ep, e, hd, _⟩ := hns
          rw [q, e] at b3
          cases b3
          rw [hd] at b6
          cases b6
        have nP : bm ≠ p.2 := fun q => by
          rw [q, hTp] at b3
          cases b3
          cases b6
        refine ⟨bm, ob, b1, b2, nG, nP, getHid b3 (noDat b3 (fun vs n z => ?_) fun z => ?_), b4, b5, b6⟩
        · rw [b6] at z
          cases z
        · rw [b6] at z
          cases z
      · obtain ⟨o, es, ep, e, hd, _⟩ := hns
        rw [z, hTp] at e
        cases e
        cases hd
    have e0 : Env0 P w K mg (hidT s0.heap H) callerA [] s0 H := ⟨rfl, hMod, fun b o e => of_hidT e, Nat.le_of_eq (hidT_size _ _), trivial, fun b hb => absurd (show b ∈ ([] : List Addr) from hb) (by simp), hok, .of_eq hg⟩
    refine codeAny_mono ((F _ kHid (nsHid hns) TB).run callerA [] s0 H ⟨[.ref a], []⟩ [.ref a] [.ref a] _ _ hr rfl e0 (hbind s0 (.ref a)) (.cons rfl .nil) (hsp H hH hS)) fun r s' h => ?_
    cases r with
    | error e => exact (hCX H e s' h).elim
    | ok fl =>
      cases fl with
      | next => exact False.elim h
      | brk => exact False.elim h
      | cont => exact False.elim h
      | ret u =>
        obtain ⟨v, H', os, bare, un, hok', r', q⟩ := h
        have q' : v = .bl true := q
        subst q'
        obtain rfl : u = Value.bool true := r'
        have keepB : ∀ b o, b ∉ cs.map (·.2) → s0.heap.get? b = some o → s'.heap.get? b = some o := fun b o nb e => by
          cases q : H b with
          | none => exact un.keep b o e q (by intro z; exact absurd (show b ∈ ([] : List Addr) from z) (by simp)) (by simp)
          | some u =>
            rcases hO b with z | z | ⟨ob, xs, z⟩
            · rw [q] at z; cases z
            · exact absurd z nb
            · have z2 := un.frzs b ob _ z
              obtain ⟨e1, _⟩ := hok b _ z
              obtain ⟨e2, _⟩ := hok' b _ z2
              rw [e] at e1; cases e1
              exact e2
        have more : ∀ p ∈ cs, ∃ mo : Array Value, s'.heap.get? p.2 = some { cls := .none, data := .fields mo } := fun p hp => by
          obtain ⟨mo, z⟩ := un.tbls p.2 #[] (hH p hp)
          exact ⟨_, hok' p.2 _ z⟩
        refine ⟨rfl, ⟨fun b o e => ?_, fun b o e => ?_⟩, os, bare⟩
        · by_cases hb : b ∈ cs.map (·.2)
          · obtain ⟨p, hp, ep⟩ := List.mem_map.mp hb
            obtain ⟨mo, hm⟩ := more p hp
            rw [← ep] at e ⊢
            rw [hT p hp] at e
            cases e
            exact .inr (.inl ⟨((C p hp).tab (hT p hp)).isCodeTable, rfl, #[], mo, rfl, by rw [Array.empty_append]; exact hm⟩)
          · exact .inl (keepB b o hb e)
        · by_cases hb : b ∈ cs.map (·.2)
          · obtain ⟨p, hp, ep⟩ := List.mem_map.mp hb
            obtain ⟨mo, hm⟩ := more p hp
            rw [← ep]
            exact ⟨_, hm⟩
          · exact ⟨o, keepB b o hb e⟩
  cases hk : K.lookup a with
  | some o =>
    have e := KX a o hk
    rw [ha] at e
    cases e
    refine body (fun b => if b ∈ cs.map (·.2) then some (.tbl #[]) else none) (fun p hp => if_pos (inTab p hp)) (fun b => ?_) (.inr ⟨_, vs.toArray, _, hk, rfl, rfl, rfl, by rw [List.size_toArray, lenVs]; exact hl, by simpa using rv⟩) (fun b u z => ?_) (fun b z => ?_) fun z => absurd (show (if a ∈ cs.map (·.2) then some (HO.tbl #[]) else none) = none from if_neg notTab) z
    · by_cases hb : b ∈ cs.map (·.2)
      · exact .inr (.inl hb)
      · exact .inl (if_neg hb)
    · by_cases hb : b ∈ cs.map (·.2)
      · have z' := (if_pos hb).symm.trans z
        cases z'
        exact atTab b hb
      · have z' := (if_neg hb).symm.trans z
        cases z'
    · by_cases hb : b ∈ cs.map (·.2)
      · exact .inr hb
      · exact absurd (if_neg hb) z
  | none =>
    refine body (fun b => if b = a then some (.frz { cls := .type "list", data := .seq vs.toArray } (.lst (ns.map V.int))) else if b ∈ cs.map (·.2) then some (.tbl #[]) else none) (fun p hp => (if_neg (show ¬ p.2 = a from fun z => notTab (by rw [← z]; exact inTab p hp))).trans (if_pos (inTab p hp))) (fun b => ?_)
      (.inl (.inr ⟨{ cls := .type "list", data := .seq vs.toArray }, if_pos rfl⟩)) (fun b u z => ?_) (fun b z => ?_) fun _ => hk
    · by_cases hb : b = a
      · exact .inr (.inr ⟨_, _, if_pos hb⟩)
      · by_cases hb2 : b ∈ cs.map (·.2)
        · exact .inr (.inl hb2)
        · exact .inl ((if_neg hb).trans (if_neg hb2))
    · by_cases hb : b = a
      · have z' := (if_pos hb).symm.trans z
        cases z'
        rw [hb]
        exact ⟨ha, by rw [List.length_map]; exact hl, vs, _, rv, ha⟩
      · have z1 := (if_neg hb).symm.trans z
        by_cases hb2 : b ∈ cs.map (·.2)
        · have z' := (if_pos hb2).symm.trans z1
          cases z'
          exact atTab b hb2
        · have z' := (if_neg hb2).symm.trans z1
          cases z'
    · by_cases hb : b = a
      · exact .inl hb
      · by_cases hb2 : b ∈ cs.map (·.2)
        · exact .inr hb2
        · exact absurd ((if_neg hb).trans (if_neg hb2)) z
/-- what is known of the law's promise at the head's heap -/
def LawAtG (l : PySem.W.OpenLaw) (w : World) (K : PySem.W.Frag) (CX : CXT) (k n : Nat) (x : Str) (mg : Str → Option Value) (fa : Addr) (h : Heap) : Prop :=
  ∃ (fd : FuncData) (cs : List (Addr × Addr)) (sp : Sp), (∀ p ∈ cs, h.get? p.2 = some { cls := .none, data := .fields #[] }) ∧ (∀ p ∈ cs, K.lookup p.2 = none) ∧ (∀ p ∈ cs, PySem.W.CodeHd h p.1 p.2) ∧ (∀ (s : Shared) (u : Value), BindsTo s fd ⟨[u], []⟩ [(x, u)]) ∧
    (∀ (H : Hp) (a : Addr) (ns : List Int), ns.length ≤ n → (∀ z ∈ ns, Builtin.Int.intBits z ≤ 1048576) → (∀ p ∈ cs, H p.2 = some (.tbl #[])) → SqL K H a (ns.map V.int) → sp [.ref a] H (fun v _ => v = .bl true) fun _ _ _ => False) ∧
    ∀ base : Heap, K.In base → base.Ns mainGlobals mg → (∀ p ∈ cs, TabB base mg p.1 p.2) → FnG l.prog w K mg base CX k fa fd [x] sp
theorem walk_ofTsG {l : PySem.W.OpenLaw} {n k : Nat} {q : Program} {loose : List Str} {XP : (Str → Option Value) → Heap → Prop} {YP : World → Heap → Prop} {d : DefRec} {CX : World → CXT} {x : Str}
    (hn : l.most = some n) (hn2 : n ≤ sizeLine) (hdf : d.params.defaults = []) (hr : Room k callerA)
    (F : ∀ (w : World) (mg : Str → Option Value) (fa : Addr) (h : Heap), YP w h → h.Ns mainGlobals mg → mg d.name = some (.ref fa) → ∃ K : PySem.W.Frag, K.In h ∧ LawAtG l w K (CX w) k n x mg fa h)
    (hCX : ∀ (w : World) (H : Hp) (s : Shared) (e : Value) (s' : Shared), CX w [] H s (fun _ _ _ => False) e s' → False) :
    PySem.W.WalkO q loose XP YP l.row.toRowW d [] (fun f vs => PySem.call f vs) := by
  refine Att.attach_callB hn hdf fun w s₀ s1 mg mb fa o pm cd doc a vs ns G Y ho hd hcd hmg hobj hints hlen hbits hg => ?_
  obtain ⟨K, KX, fd, cs, sp, hT, nT, C, hb, hsp, hF⟩ := F w mg fa _ Y G.T.g hmg
  exact law_tabG KX G.T.g G.T.b G.T.builtins G.T.nolimit hg hT nT C G.T.bmain hobj hints (Nat.le_trans hlen hn2) hr hF hb (fun H hH hS => hsp H a ns hlen hbits hH hS) fun H e s' => hCX w H s1 e s'
end Tw
namespace K08
open PySem PySem.Spec PyProof.Rows L2 He Tw
abbrev R : PySem.W.OpenRow := PySem.W.OpenLaw.row PySem.Challenge.rw_twoheads_k08_whole_bags
def ls : List (Fg → Addr) := []
abbrev hk : PySem.W.Hook := hookZ 6 fs fn ls
def ob (s : PySem.W.SharedT) : AlL := obsZG 6 fs fn ls (HandSHeadRun.getT s)
theorem ob_eq (s : PySem.W.SharedT) : ob s = hk.obs s.abs := obsZG_eq (HandSHeadRun.getT_eq s)
def others : List Str := clss ++ fnames.dropLast ++ (["BEYOND", "LONGEST", "LETTERS", "_wall"] : List Str)
theorem run (w : World) : HandSHeadRun.RunEq R (PySem.W.view R.prog [39]) hk ob 9000 others w := by
  intro os
  kernel_rfl
theorem facts {P : Program} {w : World} {K : Fg} {h : Heap} {mg : Str → Option Value} (X : K.In h) (G : h.Ns mainGlobals mg) (c : SaysZ fs fn K) :
    ∃ (u : FuncData), Txt K mg ∧ (∀ (s : Shared) (v : Value), BindsTo s u ⟨[v], []⟩ [("_law_script", v)]) ∧ ∀ base : Heap, K.In base → base.Ns mainGlobals mg → (∀ p ∈ csZ ls K, LamX.TabB base mg p.1 p.2) → FnG P w K mg base CX0 16 (ga K "law") u ["_law_script"] (spLaw K) := by
  obtain ⟨fd, D⟩ := c.defs (d0 := fn.headD (dF "law" 39)) rfl
  have T : Txt K mg := ⟨c, fun x hx => He.glo_ok X G hx, fun x hx => He.free_ok X G hx, fun x i hx => He.int_ok X G hx, fun x z hx => He.str_ok X G hx⟩
  have F : FnP K "law" "law" s_law (ga K "law") (fd 43) := D 43 _ rfl
  have b : ∀ (s : Shared) (us : List Value), us.length = (["_law_script"] : List Str).length → BindsTo s (fd 43) ⟨us, []⟩ ((["_law_script"] : List Str).zip us) := FunD.bindsA (ps := ["_law_script"]) F fun _ _ _ _ _ _ us hl => match us, hl with | [_], _ => rfl
  exact ⟨fd 43, T, fun s v => b s [v] rfl, fun base _ _ tb => G_law D T⟩
end K08
open PySem PySem.W PySem.Calls PyProof.Rows
set_option maxHeartbeats 0 in
theorem PySem.Challenge.cw_twoheads_k08_whole_bags_holds : PySem.Challenge.rw_twoheads_k08_whole_bags.Holds := by
  w_on; o_law
  refine HandSHeadRun.head_any (r := OpenLaw.row PySem.Challenge.rw_twoheads_k08_whole_bags) (q := view (OpenLaw.row PySem.Challenge.rw_twoheads_k08_whole_bags).prog [39]) (H := K08.hk) (ob := K08.ob) (M := 9000) (loose := K08.others) (d := HandSHeadRun.topDef (OpenLaw.row PySem.Challenge.rw_twoheads_k08_whole_bags).prog 39) (kwd := []) K08.ob_eq
    (by kernel_rfl) (fun s => by kernel_rfl) K08.run (by kernel_rfl) (by kernel_rfl) (by kernel_rfl) (by rfl) (by first | assumption | decide +kernel) (by decide +kernel) ⟨rfl, rfl, rfl, rfl, rfl, by decide +kernel⟩ ?hw ?hc
  case hw => w_witness2
  case hc =>
    refine Tw.walk_ofTsG (l := PySem.Challenge.rw_twoheads_k08_whole_bags) (n := 63) (k := 16) (x := "_law_script") (CX := fun _ => L2.CX0) rfl (by decide) (by kernel_rfl) ⟨rfl, by decide, by decide⟩ ?F (fun _ _ _ _ _ z => z)
    intro w mg fa h Y G hmg0
    obtain ⟨K, KX, c, tabs⟩ := Y
    have hmg : mg ("law" : PySem.Str) = some (.ref fa) := by
      have e : (HandSHeadRun.topDef (OpenLaw.row PySem.Challenge.rw_twoheads_k08_whole_bags).prog 39).name = ("law" : PySem.Str) := by kernel_rfl
      rw [← e]
      exact hmg0
    obtain ⟨fd, T, hb, hF⟩ := K08.facts (P := (PySem.Challenge.rw_twoheads_k08_whole_bags).prog) (w := w) KX G c
    have T0 : mg ("law" : PySem.Str) = some (.ref (He.ga K "law")) := T.fn (x := "law") (by decide +kernel)
    have ef : fa = He.ga K "law" := by
      rw [hmg] at T0
      exact Value.ref.inj (Option.some.inj T0)
    subst ef
    have tb : ∀ f ∈ K08.ls, Tw.tabB K (f K) = true := fun f hf => by cases hf
    refine ⟨K, KX, fd, Tw.csZ K08.ls K, K08.spLaw K, fun p hp => ?_, fun p hp => ?_, fun p hp => ?_, hb, fun H a ns hl _ hH hS => ⟨a, ns, rfl, hS, hl, fun _ => rfl⟩, hF⟩
    · obtain ⟨f, hf, rfl⟩ := List.mem_map.mp hp
      exact Tw.isTab_ok (tabs f hf)
    · obtain ⟨f, hf, rfl⟩ := List.mem_map.mp hp
      exact Option.isNone_iff_eq_none.mp (Bool.and_eq_true_iff.mp (tb f hf)).2
    · obtain ⟨f, hf, rfl⟩ := List.mem_map.mp hp
      exact PySem.W.codeHd_of_K KX (Bool.and_eq_true_iff.mp (tb f hf)).1
#print axioms PySem.Challenge.cw_twoheads_k08_whole_bags_holds
