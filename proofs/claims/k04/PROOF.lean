import PyProof.Rows.All
import Wide.All
import OpenK.AllK
import Wide.FinOn
import HandS.Defaults
import HandS.Head0
import HandS.Head1
import HandS.Head2
import HandS.HeadEnd
import HandS.HeadHook1
import HandS.HeadHook2
import PyProof.StrLawsRepr
import PyProof.EqAt
import PyProof.EqKinds
import PyProof.TupleCall
import PyProof.ReprRoads
import KE.KExcIs
import HandS.ForMost
import HandS.Exc
import HandS.ExcInit
import HandS.ExcValue
import HandS.IsInst
import HandS.WordsExc
import HandS.SlotsOwn
import HandS.MakeKw
import HandS.MakeKwOnly
import KE.KCallOwn
import KE.KFmtOwn
import PyProof.Rows.StrMul
import KE.GoesEnum
import HandS.IterVal
import KE.KOwnIter
import HandS.RaiseMore
import HandS.More
import HandS.HeadHook3
import HandS.FStr
import HandS.ClsMeth
import HandS.Codes
import Wide.Once
import KE.KOpsOwn
import HandS.Star
import HandS.Property
import HandS.ExcOwn
import PyProof.ListMulRoad
import HandS.EndTab
import HandS.HeadWalk
import HandS.HeadNt
import KE.SortKeyHeap
import HandS.SortKw
import HandS.SetBool
import HandS.Strs
import HandS.SetKeys
import HandS.TupAny
import HandS.SetFor
import KE.DataCmp
import HandS.GenList
import HandS.Comp
import HandS.Words
import OpenK.KMeth
import KE.KDictWalk
import HandS.Style
import PySem.Challenge.RW_twoheads_k04_rows_read
set_option Elab.async false
set_option linter.all false
set_option maxRecDepth 100000
set_option maxHeartbeats 8000000
/-! Tw, part 1: calls where no repr runs around; errors as values; errors kept behind their except suite. -/
namespace Tw
open PySem PySem.Spec PyProof.Rows L2

/-! ### no repr is running around -/
abbrev NoG (A : Around) : Prop := A.guards = some []
structure FnG (P : Program) (w : World) (K : PySem.W.Frag) (mg : Str → Option Value) (base : Heap) (CX : CXT) (k : Nat) (f : Addr) (fd : FuncData) (ps : List Str) (sp : Sp) : Prop where
  len : ∀ vs H Q E, sp vs H Q E → vs.length = ps.length
  run : ∀ (A : Around) (outer : List Env) (s : Shared) (H : Hp) (args : Args) (us : List Value) (vs : List V) (Q : VK) (E : XK), Room k A → NoG A → Env0 P w K mg base A outer s H →
    BindsTo s fd args (ps.zip us) → Vals vs us → sp vs H Q E → codeAny (model P w) A (.call (.ref f) args) (CR CX outer P w H s Q E) s
section
variable {P : Program} {w : World} {K : PySem.W.Frag} {mg : Str → Option Value} {base : Heap} {CX : CXT}
theorem FnG.of {k : Nat} {f : Addr} {fd : FuncData} {ps : List Str} {sp : Sp} (F : FnOk P w K mg base CX k f fd ps sp) : FnG P w K mg base CX k f fd ps sp :=
  ⟨F.len, fun A outer s H args us vs Q E hr _ => F.run A outer s H args us vs Q E hr⟩
theorem FnG.mono {j k : Nat} {f : Addr} {fd : FuncData} {ps : List Str} {sp : Sp} (F : FnG P w K mg base CX j f fd ps sp) (h : j ≤ k) : FnG P w K mg base CX k f fd ps sp :=
  ⟨F.len, fun A outer s H args us vs Q E hr => F.run A outer s H args us vs Q E (hr.mono h)⟩
/-- a def by its body, where no repr runs around -/
theorem fng {k : Nat} {f : Addr} {name qual : Str} {params : Arguments} {body : List Stmt} {scope : Scope} {dV kV doc pm cdv ct oc : Value} {an od : Option Addr} {osl : Array (Option Value)} {N ps : List Str} {sp : Sp}
    (lk : K.lookup f = some ⟨oc, od, .func (PySem.W.fnOf name qual params body scope dV kV doc pm an cdv ct), osl⟩) (hcd : PySem.W.codeIn K cdv qual = true) (S : FnScope N ps scope) (len : ∀ vs H Q E, sp vs H Q E → vs.length = ps.length)
    (hbody : ∀ (A : Around) (outer : List Env) (s : Shared) (H : Hp) (vs : List V) (Q : VK) (E : XK), Room k (A.deeper (envOfC qual scope s.heap.objs.size f cdv)) → NoG (A.deeper (envOfC qual scope s.heap.objs.size f cdv)) → sp vs H Q E →
      ∃ t, PSs (cxOf CX P w K mg base N qual scope f cdv A outer s H E) body t ∧ t { nx := fun _ H' => Q .non H', rt := Q } (start N vs) H) :
    FnG P w K mg base CX (k + 1) f (PySem.W.fnOf name qual params body scope dV kV doc pm an cdv ct) ps sp := by
  refine ⟨len, fun A outer s H args us vs Q E hr hg e0 hb r hsp => ?_⟩
  have at0 : ∀ b o, base.get? b = some o → s.heap.get? b = some o := fun b o e => (e0.bs b o e).1
  have hkind : ∀ y ∈ ps.zip us, scope.names.lookup y.1 = some .local ∨ (scope.names.lookup y.1 = some .cell ∧ ((cellsFrom (s.heap.objs.size + 1) scope.names []).lookup y.1).isSome = true) := by
    rintro ⟨n, v⟩ hy
    rcases S.par n (List.of_mem_zip hy).1 with q | q
    · exact .inl q
    · exact .inr ⟨q, PySem.W.cellsFrom_some _ _ _ (.inl q)⟩
  refine codeAny_call_function hr.depth ((e0.mod.kin.keeps at0) _ _ lk) rfl S.co S.gen rfl (PySem.W.codeRec_of (e0.mod.kin.keeps at0) hcd) (hb _ _ _ _ ?_)
  refine wpAny_newFunctionEnv_cells S.kind hkind fun env he s1 x => ?_
  subst he
  refine ⟨(e0.mod.nolimit.keeps at0).keeps x.toInCall.keep, codeAny_func ?_⟩
  obtain ⟨t, ht, hq⟩ := hbody A outer s H vs Q E (hr.deeper _) hg hsp
  refine wpAny_mono (ht.run [] s1 (start N vs) H _ (inv_start S hr.hd e0 (len _ _ _ _ hsp) r x) hq) (fun fl s' hs => ?_) fun e s' hs => hs
  cases fl with
  | ret u =>
    obtain ⟨v, σ', H', J, rv, q⟩ := hs
    exact ⟨v, H', J.os, J.bare, J.base, J.hok, rv, q⟩
  | next =>
    obtain ⟨σ', H', J, q⟩ := hs
    exact ⟨.non, H', J.os, J.bare, J.base, J.hok, rfl, q⟩
  | brk => exact hs.elim fun _ z => z.elim fun _ z => z.2.elim
  | cont => exact hs.elim fun _ z => z.elim fun _ z => z.2.elim
/-- the same for a def as the text has it -/
theorem _root_.L2.Fun.okG {x qual : Str} {st : Stmt} {f : Addr} {fd : FuncData} {N ps : List Str} {k : Nat} {sp : Sp} (F : Fun K x qual st f fd) (S : FnScope N ps (defScope st)) (len : ∀ vs H Q E, sp vs H Q E → vs.length = ps.length)
    (hbody : ∀ (cdv : Value) (A : Around) (outer : List Env) (s : Shared) (H : Hp) (vs : List V) (Q : VK) (E : XK), Room k (A.deeper (envOfC qual (defScope st) s.heap.objs.size f cdv)) → NoG (A.deeper (envOfC qual (defScope st) s.heap.objs.size f cdv)) → sp vs H Q E →
      ∃ t, PSs (cxOf CX0 P w K mg base N qual (defScope st) f cdv A outer s H E).nox (defBody st) t ∧ t { nx := fun _ H' => Q .non H', rt := Q } (start N vs) H) : FnG P w K mg base CX0 (k + 1) f fd ps sp := by
  obtain ⟨oc, od, kV, doc, pm, an, cdv, ct, osl, rfl, lk, hcd⟩ := F.ex
  refine fng lk hcd S len fun A outer s H vs Q E hr hg hsp => ?_
  obtain ⟨t, h, q⟩ := hbody cdv A outer s H vs Q E hr hg hsp
  exact ⟨t, h.nox, q⟩
end
section
variable {X : Cx} {CX : CXT} {k : Nat} {f : Addr} {fd : FuncData} {ps : List Str} {sp : Sp} {dvs : List V} {ds : List Value} {E : XK} {x : Str} {p pos : Pos} {e : Expr} {es : List Expr} {t : TA}
theorem run_fnG {pins : List (Addr × Obj)} {σ : L2.St} {H : Hp} {s : Shared} {Q : VK} {us : List Value} {vs : List V} (F : FnG X.prog X.w X.K X.mg X.base CX k f fd ps sp) (hr : Room k X.A) (hG : NoG X.A) (hb : Binds X.K fd ps ds) (hd : Vals dvs ds) (hx : Passes CX X E)
    (I : Inv X pins σ H s) (r : Vals vs us) (h : sp (vs ++ dvs) H Q E) : wpAny (model X.prog X.w) X.A (call (.ref f) us) (EP X pins σ Q) X.xe s := by
  have r2 : Vals (vs ++ dvs) (us ++ ds) := r.append hd
  have hl : (us ++ ds).length = ps.length := r2.length.symm.trans (F.len _ _ _ _ h)
  refine wpAny_call (codeAny_mono (F.run X.A X.stack s H ⟨us, []⟩ (us ++ ds) (vs ++ dvs) Q E hr hG I.env0 (hb s us I.kIn hl) r2 h) fun r s' hq => ?_)
  match r, hq with
  | .error e, hq => exact hx pins σ H s e s' I hq
  | .ok (.ret u), hq => exact I.after hq
/-- f(e, ..) -/
theorem pe_callG (F : FnG X.prog X.w X.K X.mg X.base CX k f fd ps sp) (hr : Room k X.A) (hG : NoG X.A) (hg : Gl X x) (hm : X.mg x = some (.ref f)) (hk : PySem.W.keepIn X.K (.ref f) = true) (hb : Binds X.K fd ps ds) (hd : Vals dvs ds) (hx : Passes CX X E)
    (ha : PA X (e :: es) t) (hdb : (x == ("__debug__" : Str)) = false := by decide) (he : starEach (e :: es) X.env = (false, eval e X.env) :: starEach es X.env := by rfl) (hpl : (backTo pos (starEach es X.env)).any (·.1) = false := by rfl) :
    PE X (.Call (.Name x p) (e :: es) [] pos) (tCall sp dvs E t) :=
  ⟨fun pins s σ H Q I h => wpAny_Call_Name_kw (ld_glob I hg hm (PySem.W.callWith_K (h₀ := X.base) I.ok.mod.kin hk (thn (ha.run pos pins s σ H _ I h) fun us s1 ⟨vs, H1, I1, r, q⟩ => ⟨I1.kIn, run_fnG F hr hG hb hd hx I1 r q⟩) he hpl) hdb)⟩
end
end Tw

/-! ### the law's end -/
namespace Tw
open PySem PySem.Spec PyProof.Rows L2
theorem law_endG {P : Program} {w : World} {K : PySem.W.Frag} {mg mb : Str → Option Value} {CX : CXT} {k : Nat} {fa a : Addr} {fd : FuncData} {x : Str} {sp : Sp} {s : Shared} {vs : List Value} {ns : List Int}
    (KX : K.In s.heap) (hns : s.heap.Ns mainGlobals mg) (hb : s.heap.Ns builtinsNs mb) (hbb : ∀ x : Str, x ≠ "__name__" → mb x = bootBuiltins x) (hlim : s.heap.NoLimit) (hg : s.gens = #[])
    (ha : s.heap.get? a = some { cls := .type "list", data := .seq vs.toArray }) (hi : IntsAre vs ns) (hl : ns.length ≤ sizeLine) (hr : Room k callerA)
    (F : ∀ base : Heap, K.In base → base.Ns mainGlobals mg → FnG P w K mg base CX k fa fd [x] sp) (hbind : ∀ (s : Shared) (u : Value), BindsTo s fd ⟨[u], []⟩ [(x, u)])
    (hsp : ∀ H : Hp, Only H → SqL K H a (ns.map V.int) → sp [.ref a] H (fun v _ => v = .bl true) fun _ _ _ => False)
    (hCX : ∀ H e s', CX [] H s (fun _ _ _ => False) e s' → False) :
    codeAny (model P w) callerA (.call (.ref fa) ⟨[.ref a], []⟩) (fun r s' => r = .ok (.ret (.bool true)) ∧ OldK s.heap s'.heap ∧ s'.os = s.os ∧ AllBare s'.gens) s := by
  have rv := vals_ints hi
  have lv := hi.length
  have go : ∀ H : Hp, Only H → SqL K H a (ns.map V.int) → HOk P w H s.heap → (∀ b, H b ≠ none → b = a) → (H a ≠ none → K.lookup a = none) →
      codeAny (model P w) callerA (.call (.ref fa) ⟨[.ref a], []⟩) (fun r s' => r = .ok (.ret (.bool true)) ∧ OldK s.heap s'.heap ∧ s'.os = s.os ∧ AllBare s'.gens) s := by
    intro H hO hS hok hA hK
    have none_of : ∀ {b : Addr}, b ≠ a → H b = none := fun {b} hb => by
      cases q : H b with
      | none => rfl
      | some u => exact absurd (hA b (by rw [q]; exact Option.some_ne_none u)) hb
    have noD : ∀ {b : Addr} {o : Obj} {es : Array DictEntry} {ep : Nat}, s.heap.get? b = some o → o.data = .dict es ep → H b = none := fun {b o es ep} e d => none_of fun z => by
      rw [z, ha] at e
      have e2 := Option.some.inj e
      rw [← e2] at d
      cases d
    have nsK : ∀ {b : Addr} {m : Str → Option Value}, s.heap.Ns b m → (hidT s.heap H).Ns b m := fun {b m} ⟨o, es, ep, e, d, r⟩ => ⟨o, es, ep, hidT_get e (noD e d), d, r⟩
    have hKb : K.In (hidT s.heap H) := fun b o e => hidT_get (KX b o e) (by
      by_cases hb : b = a
      · cases q : H b with
        | none => rfl
        | some u =>
          subst hb
          have z := hK (by rw [q]; exact Option.some_ne_none u)
          rw [z] at e
          cases e
      · exact none_of hb)
    have hM : Mod K mg (hidT s.heap H) := ⟨hKb, nsK hns, ⟨mb, nsK hb, hbb⟩, hlim.elim fun mc z => ⟨mc, nsK z.1, z.2⟩⟩
    have e0 : Env0 P w K mg (hidT s.heap H) callerA [] s H := ⟨rfl, hM, fun b o e => of_hidT e, Nat.le_of_eq (hidT_size _ _), trivial, (fun b hb => nomatch hb), hok, .of_eq hg⟩
    refine codeAny_mono ((F _ hKb (nsK hns)).run callerA [] s H ⟨[.ref a], []⟩ [.ref a] [.ref a] _ _ hr rfl e0 (hbind s (.ref a)) (.cons rfl .nil) (hsp H hO hS)) fun r s' h => ?_
    match r, h with
    | .error e, h => exact (hCX H e s' h).elim
    | .ok (.ret u), h =>
      obtain ⟨v, H', os, bare, un, hok', rv', q⟩ := h
      have q' : v = .bl true := q
      subst q'
      obtain rfl : u = Value.bool true := rv'
      refine ⟨rfl, OldK.of_keep fun b o e => ?_, os, bare⟩
      cases q : H b with
      | none => exact un.keep b o e q (fun z => nomatch z) (fun z => nomatch z)
      | some u =>
        rcases hO b with z | ⟨ob, xs, z⟩
        · rw [q] at z
          cases z
        · obtain ⟨e1, _⟩ := hok b _ z
          obtain ⟨e2, _⟩ := hok' b _ (un.frzs b ob _ z)
          rw [e] at e1
          cases e1
          exact e2
  cases hk : K.lookup a with
  | some o =>
    have e := KX a o hk
    rw [ha] at e
    cases e
    exact go (fun _ => none) (fun _ => .inl rfl) (.inr ⟨_, vs.toArray, _, hk, rfl, rfl, rfl, by rw [List.size_toArray, lv]; exact hl, by simpa using rv⟩) (fun b u z => nomatch z) (fun b z => absurd rfl z) fun z => absurd rfl z
  | none =>
    have at1 : (fun b => if b = a then some (HO.frz { cls := .type "list", data := .seq vs.toArray } (.lst (ns.map V.int))) else none : Hp) a = some (HO.frz { cls := .type "list", data := .seq vs.toArray } (.lst (ns.map V.int))) := if_pos rfl
    refine go (fun b => if b = a then some (.frz { cls := .type "list", data := .seq vs.toArray } (.lst (ns.map V.int))) else none) (fun b => ?_) (.inl (.inr ⟨_, at1⟩)) (fun b u z => ?_) (fun b z => ?_) fun _ => hk
    · by_cases hb : b = a
      · exact .inr ⟨_, _, if_pos hb⟩
      · exact .inl (if_neg hb)
    · by_cases hb : b = a
      · subst hb
        rw [at1] at z
        cases z
        exact ⟨ha, by rw [List.length_map]; exact hl, vs, _, rv, ha⟩
      · have z' := (if_neg hb).symm.trans z
        cases z'
    · by_cases hb : b = a
      · exact hb
      · exact absurd (if_neg hb) z
theorem walk_ofG {l : PySem.W.OpenLaw} {n k : Nat} {q : Program} {loose : List Str} {XP : (Str → Option Value) → Heap → Prop} {YP : World → Heap → Prop} {d : DefRec} {K : Params → PySem.W.Frag} {CX : World → CXT} {sp : World → Sp} {x : Str}
    (hn : l.most = some n) (hn2 : n ≤ sizeLine) (hdf : d.params.defaults = []) (hr : Room k callerA) (hY : ∀ (w : World) (h : Heap), YP w h → (K w.params).In h)
    (F : ∀ (w : World) (mg : Str → Option Value) (fa : Addr) (h : Heap), (K w.params).In h → h.Ns mainGlobals mg → mg d.name = some (.ref fa) →
      ∃ fd : FuncData, (∀ (s : Shared) (u : Value), BindsTo s fd ⟨[u], []⟩ [(x, u)]) ∧ ∀ base : Heap, (K w.params).In base → base.Ns mainGlobals mg → FnG l.prog w (K w.params) mg base (CX w) k fa fd [x] (sp w))
    (hsp : ∀ (w : World) (H : Hp) (a : Addr) (ns : List Int), ns.length ≤ n → Only H → SqL (K w.params) H a (ns.map V.int) → sp w [.ref a] H (fun v _ => v = .bl true) fun _ _ _ => False)
    (hCX : ∀ (w : World) (H : Hp) (s : Shared) (e : Value) (s' : Shared), CX w [] H s (fun _ _ _ => False) e s' → False) :
    PySem.W.WalkO q loose XP YP l.row.toRowW d [] (fun f vs => PySem.call f vs) := by
  refine Att.attach_call hn hdf fun w s₀ s₁ mg mb fa o pm cd doc a vs ns G Y ho hd hcd hmg hobj hints hlen hg => ?_
  obtain ⟨fd, hb, hF⟩ := F w mg fa _ (hY w _ Y) G.T.g hmg
  exact law_endG (hY w _ Y) G.T.g G.T.b G.T.builtins G.T.nolimit hg hobj hints (Nat.le_trans hlen hn2) hr hF hb (fun H hO hS => hsp w H a ns hlen hO hS) fun H e s' => hCX w H s₁ e s'
end Tw
/-! Tw, part 2: repr of data. -/
namespace Tw
open PySem PySem.Spec PyProof.Rows L2

/-! ### how long a repr may be -/
mutual
def cap : PyData → Nat
  | .none => 4
  | .bool _ => 5
  | .int _ => 1921
  | .str x => 10 * x.length + 2
  | .list xs => 2 + capAll xs
  | .tuple xs => 3 + capAll xs
  | .dict kvs => 2 + capKv kvs
def capAll : List PyData → Nat
  | [] => 0
  | x :: xs => cap x + 2 + capAll xs
def capKv : List (PyData × PyData) → Nat
  | [] => 0
  | (k, v) :: r => cap k + 4 + cap v + capKv r
end
mutual
/-- ints of moderate size, texts of plain signs -/
def mild : PyData → Bool
  | .none | .bool _ => true
  | .int i => decide (i.natAbs.log2 < 1920)
  | .str x => x.cps.toList.all fun c => decide (c < 16 ^ 8)
  | .list xs | .tuple xs => mildAll xs
  | .dict kvs => mildKv kvs
def mildAll : List PyData → Bool
  | [] => true
  | x :: xs => mild x && mildAll xs
def mildKv : List (PyData × PyData) → Bool
  | [] => true
  | (k, v) :: r => mild k && (mild v && mildKv r)
end
mutual
theorem mild_show : ∀ d : PyData, mild d = true → d.showable = true
  | .none, _ => rfl
  | .bool _, _ => rfl
  | .str _, _ => rfl
  | .int i, h => by simpa [mild, PyData.showable] using h
  | .list xs, h => by
    simp only [PyData.showable]
    exact mild_showAll xs (by simpa [mild] using h)
  | .tuple xs, h => by
    simp only [PyData.showable]
    exact mild_showAll xs (by simpa [mild] using h)
  | .dict kvs, h => by
    simp only [PyData.showable]
    exact mild_showKv kvs (by simpa [mild] using h)
theorem mild_showAll : ∀ xs : List PyData, mildAll xs = true → PyData.showableAll xs = true
  | [], _ => rfl
  | x :: xs, h => by
    have h2 := Bool.and_eq_true_iff.mp (show (mild x && mildAll xs) = true by simpa [mildAll] using h)
    simp only [PyData.showableAll, mild_show x h2.1, mild_showAll xs h2.2, Bool.and_self]
theorem mild_showKv : ∀ kvs : List (PyData × PyData), mildKv kvs = true → PyData.showableKv kvs = true
  | [], _ => rfl
  | (k, v) :: r, h => by
    have h2 := Bool.and_eq_true_iff.mp (show (mild k && (mild v && mildKv r)) = true by simpa [mildKv] using h)
    have h3 := Bool.and_eq_true_iff.mp h2.2
    simp only [PyData.showableKv, mild_show k h2.1, mild_show v h3.1, mild_showKv r h3.2, Bool.and_self]
end
theorem textFrom_le : ∀ (ts : List Str) (k : Nat) (acc : Str), (textFrom k acc ts).length ≤ acc.length + piled ts
  | [], k, acc => by
    show acc.length ≤ acc.length + _
    omega
  | t :: r, k, acc => by
    have ih := textFrom_le r (k + 1) (acc ++ (if k > 0 then ", " else "" : String) ++ t)
    rw [piled_cons]
    show (textFrom (k + 1) (acc ++ (if k > 0 then ", " else "" : String) ++ t) r).length ≤ _
    rw [strLen_append, strLen_append] at ih
    have e : (Str.ofString (if k > 0 then ", " else "" : String)).length ≤ 2 := by
      by_cases hk : k > 0
      · rw [if_pos hk]; decide
      · rw [if_neg hk]; decide
    have e' : ((if k > 0 then ", " else "" : String) : Str).length ≤ 2 := e
    omega
theorem join_le (ts : List Str) : (Str.join ", " ts).length ≤ piled ts := by
  by_cases h : ts = []
  · subst h
    decide
  · have := join_length_add ts h
    omega
theorem piled_le : ∀ (xs : List PyData) (ts : List Str), ts.length = xs.length → (∀ (i : Nat) (x : PyData) (t : Str), xs[i]? = some x → ts[i]? = some t → t.length ≤ cap x) → piled ts ≤ capAll xs
  | [], [], _, _ => Nat.le_refl _
  | x :: xs, t :: ts, hl, h => by
    have h1 := h 0 x t rfl rfl
    have h2 := piled_le xs ts (by simpa using hl) fun i y u e1 e2 => h (i + 1) y u (by simpa using e1) (by simpa using e2)
    rw [piled_cons]
    simp only [capAll]
    omega
  | [], _ :: _, hl, _ => by simp at hl
  | _ :: _, [], hl, _ => by simp at hl
mutual
theorem shown_le : ∀ d : PyData, mild d = true → d.shown.length ≤ cap d
  | .none, _ => by simp only [PyData.shown, cap]; decide
  | .bool b, _ => by
    simp only [PyData.shown, cap]
    cases b <;> decide
  | .int i, h => by
    have h2 : i.natAbs.log2 < 1920 := by simpa [mild] using h
    have e := int_text_length_le (a := i) (k := 1920) (by decide) h2
    simp only [PyData.shown, cap]
    show (Str.ofString (toString i)).length ≤ 1921
    rw [PySem.ofString_length]
    exact e
  | .str x, h => by
    simp only [PyData.shown, cap]
    exact PySem.StrLaws.reprText_len x fun c hc => of_decide_eq_true (List.all_eq_true.mp (show (x.cps.toList.all fun c => decide (c < 16 ^ 8)) = true by simpa [mild] using h) c hc)
  | .list xs, h => by
    have h2 := shownAll_le xs (by simpa [mild] using h)
    simp only [PyData.shown, cap]
    have e := textFrom_le (PyData.shownAll xs) 0 "["
    unfold listText
    rw [strLen_append]
    have e1 : ("[" : Str).length = 1 := by decide
    have e2 : ("]" : Str).length = 1 := by decide
    omega
  | .tuple xs, h => by
    have h2 := shownAll_le xs (by simpa [mild] using h)
    simp only [PyData.shown, cap]
    have e := join_le (PyData.shownAll xs)
    unfold tupleText
    rw [strLen_append, strLen_append]
    have e1 : ("(" : Str).length = 1 := by decide
    have e2 : ((if (PyData.shownAll xs).length == 1 then ",)" else ")" : String) : Str).length ≤ 2 := by
      cases (PyData.shownAll xs).length == 1 <;> decide
    omega
  | .dict kvs, h => by
    have h2 := shownKv_le kvs (by simpa [mild] using h)
    simp only [PyData.shown, cap]
    have e := join_le (PyData.shownKv kvs)
    unfold dictText
    rw [strLen_append, strLen_append]
    have e1 : ("{" : Str).length = 1 := by decide
    have e2 : ("}" : Str).length = 1 := by decide
    omega
theorem shownAll_le : ∀ xs : List PyData, mildAll xs = true → piled (PyData.shownAll xs) ≤ capAll xs
  | [], _ => by simp only [PyData.shownAll, capAll]; decide
  | x :: xs, h => by
    have h2 := Bool.and_eq_true_iff.mp (show (mild x && mildAll xs) = true by simpa [mildAll] using h)
    have a := shown_le x h2.1
    have b := shownAll_le xs h2.2
    simp only [PyData.shownAll, capAll, piled_cons]
    omega
theorem shownKv_le : ∀ kvs : List (PyData × PyData), mildKv kvs = true → piled (PyData.shownKv kvs) ≤ capKv kvs
  | [], _ => by simp only [PyData.shownKv, capKv]; decide
  | (k, v) :: r, h => by
    have h2 := Bool.and_eq_true_iff.mp (show (mild k && (mild v && mildKv r)) = true by simpa [mildKv] using h)
    have h3 := Bool.and_eq_true_iff.mp h2.2
    have a := shown_le k h2.1
    have b := shown_le v h3.1
    have c := shownKv_le r h3.2
    simp only [PyData.shownKv, capKv, piled_cons]
    rw [strLen_append, strLen_append]
    have e1 : (": " : Str).length = 2 := by decide
    omega
end

/-! ### data in the abstract heap, with flat dicts -/
def keyD : Key → PyData
  | .inl i => .int i
  | .inr x => .str x
mutual
inductive Dx (K : PySem.W.Frag) (H : Hp) : V → PyData → Prop
  | non : Dx K H .non .none
  | bl (b : Bool) : Dx K H (.bl b) (.bool b)
  | int (i : Int) : Dx K H (.int i) (.int i)
  | str (x : Str) : Dx K H (.str x) (.str x)
  | lst {a : Addr} {xs : List V} {ds : List PyData} : SqL K H a xs → a ≠ sysModules → DxAll K H xs ds → Dx K H (.ref a) (.list ds)
  | tup {a : Addr} {xs : List V} {ds : List PyData} : SqT K H a xs → DxAll K H xs ds → Dx K H (.ref a) (.tuple ds)
  | dic {a : Addr} {kvs : List (Key × V)} {ds : List PyData} : H a = some (.dK kvs) → DxAll K H (kvs.map (·.2)) ds → Dx K H (.ref a) (.dict ((kvs.map fun p => keyD p.1).zip ds))
inductive DxAll (K : PySem.W.Frag) (H : Hp) : List V → List PyData → Prop
  | nil : DxAll K H [] []
  | cons {v : V} {vs : List V} {d : PyData} {ds : List PyData} : Dx K H v d → DxAll K H vs ds → DxAll K H (v :: vs) (d :: ds)
end
section
variable {X : Cx} {pins : List (Addr × Obj)} {σ : L2.St} {H : Hp} {s : Shared}
theorem DxAll.len : ∀ {vs : List V} {ds : List PyData}, DxAll X.K H vs ds → vs.length = ds.length
  | [], _, .nil => rfl
  | _ :: _, _, .cons _ t => by
    have := DxAll.len t
    simp [this]
theorem readsAll_keys {h : Heap} : ∀ {kvs : List (Key × V)} {ws : List (Key × Value)} {es : List DictEntry}, KV kvs ws → Pairs (mixKind X.prog X.w) es ws → ReadsAll h (es.map (·.key)) (kvs.map fun p => keyD p.1) []
  | [], _, _, .nil, .nil => .nil
  | (k, v) :: kvs, (k', u) :: ws, e :: es, .cons r t, .cons a b q => by
    obtain ⟨r1, r2⟩ := r
    have ih := readsAll_keys (h := h) t q
    have hk : keyIs k' e.key = true := a
    have r1' : k = k' := r1
    subst r1'
    rcases keyIs_shape hk with ⟨i, tk, e1, e2⟩ | ⟨x, tk, e1, e2⟩
    · subst e1
      show ReadsAll h (e.key :: es.map (·.key)) (PyData.int i :: _) ([] ++ [])
      rw [e2]
      exact .cons (.int i tk) ih
    · subst e1
      show ReadsAll h (e.key :: es.map (·.key)) (PyData.str x :: _) ([] ++ [])
      rw [e2]
      exact .cons (.str x tk) ih
theorem vals_of_pairs : ∀ {kvs : List (Key × V)} {ws : List (Key × Value)} {es : List DictEntry}, KV kvs ws → Pairs (mixKind X.prog X.w) es ws → Vals (kvs.map (·.2)) (es.map (·.val))
  | [], _, _, .nil, .nil => .nil
  | (k, v) :: kvs, (k', u) :: ws, e :: es, .cons r t, .cons a b q => by
    obtain ⟨r1, r2⟩ := r
    refine .cons ?_ (vals_of_pairs t q)
    have b' : e.val = u := b
    show RelV v e.val
    rw [b']
    exact r2
theorem map_fst_zip' {α β : Type} : ∀ {l : List α} {m : List β}, l.length = m.length → (l.zip m).map (·.1) = l
  | [], [], _ => rfl
  | _ :: l, _ :: m, h => by
    have := map_fst_zip' (l := l) (m := m) (by simpa using h)
    simp [this]
  | [], _ :: _, h => by simp at h
  | _ :: _, [], h => by simp at h
theorem map_snd_zip' {α β : Type} : ∀ {l : List α} {m : List β}, l.length = m.length → (l.zip m).map (·.2) = m
  | [], [], _ => rfl
  | _ :: l, _ :: m, h => by
    have := map_snd_zip' (l := l) (m := m) (by simpa using h)
    simp [this]
  | [], _ :: _, h => by simp at h
  | _ :: _, [], h => by simp at h
mutual
theorem Dx.reads (I : Inv X pins σ H s) : ∀ {v : V} {d : PyData} {u : Value}, Dx X.K H v d → RelV v u → ∃ as, Reads s.heap u d as ∧ sysModules ∉ as
  | _, _, _, .non, r => by
    cases r
    exact ⟨_, Reads.none, fun z => nomatch z⟩
  | _, _, _, .bl b, r => by
    cases r
    exact ⟨_, Reads.bool b, fun z => nomatch z⟩
  | _, _, _, .int i, r => by
    obtain ⟨t, rfl⟩ := r
    exact ⟨_, Reads.int i t, fun z => nomatch z⟩
  | _, _, _, .str x, r => by
    obtain ⟨t, rfl⟩ := r
    exact ⟨_, Reads.str x t, fun z => nomatch z⟩
  | _, _, _, .lst (a := a) hs hne ha, r => by
    cases r
    obtain ⟨its, rv, ⟨o, n, ho, hc, _, hd⟩, _⟩ := I.list hs
    obtain ⟨as, hr, hn⟩ := DxAll.reads I ha rv
    refine ⟨_, Reads.list ho hc hd hr, fun z => ?_⟩
    rcases List.mem_cons.mp z with z | z
    · exact hne z.symm
    · exact hn z
  | _, _, _, .tup hs ha, r => by
    cases r
    obtain ⟨its, rv, ⟨o, ho, hc, n, hd⟩, _⟩ := I.tuple hs
    obtain ⟨as, hr, hn⟩ := DxAll.reads I ha rv
    exact ⟨_, Reads.tuple ho hc hd hr, hn⟩
  | _, _, _, .dic (kvs := kvs) hs ha, r => by
    cases r
    obtain ⟨_, hsys, ws, hkv, o, es, ep, ho, hx, hd, _, hp, _⟩ := I.hok _ _ hs
    have hl := DxAll.len (X := X) ha
    have rv := vals_of_pairs (X := X) hkv hp
    obtain ⟨as, hr, hn⟩ := DxAll.reads I ha rv
    have hk := readsAll_keys (h := s.heap) hkv hp
    refine ⟨_, Reads.dict ho hx.1 hd (as := []) (bs := as) (by rw [map_fst_zip' (by rw [List.length_map, ← hl, List.length_map])]; exact hk) (by rw [map_snd_zip' (by rw [List.length_map, ← hl, List.length_map])]; exact hr), fun z => ?_⟩
    rcases List.mem_cons.mp (by simpa using z) with z | z
    · rw [← z] at hsys
      simp at hsys
    · exact hn z
theorem DxAll.reads (I : Inv X pins σ H s) : ∀ {vs : List V} {ds : List PyData} {us : List Value}, DxAll X.K H vs ds → Vals vs us → ∃ as, ReadsAll s.heap us ds as ∧ sysModules ∉ as
  | _, _, _, .nil, .nil => ⟨_, .nil, fun z => nomatch z⟩
  | _, _, _, .cons h t, .cons r q => by
    obtain ⟨as, h1, n1⟩ := Dx.reads I h r
    obtain ⟨bs, h2, n2⟩ := DxAll.reads I t q
    exact ⟨_, .cons h1 h2, fun z => (List.mem_append.mp z).elim n1 n2⟩
end
end
end Tw

/-! ### the rules -/
namespace Tw
open PySem PySem.Spec PyProof.Rows L2
theorem boot_repr : bootBuiltins "repr" = some (.builtin "repr") := by decide +kernel
section
variable {X : Cx}
/-- repr(x), x a list or a tuple of data -/
def rRepr (K : PySem.W.Frag) : List V → Hp → VK → Prop := fun xs H Q => ∃ (a : Addr) (d : PyData), xs = [.ref a] ∧ Dx K H (.ref a) d ∧ mild d = true ∧ d.depth ≤ 64 ∧ cap d ≤ 16777216 ∧ Q (.str d.shown) H
theorem call_repr (hG : NoG X.A) (hu : X.A.units + 70 < cLine) : CallR X (.builtin "repr") (rRepr X.K) := by
  intro pins s σ H xs us Q I r h
  obtain ⟨a, d, rfl, hd, hm, hdp, hc, q⟩ := h
  obtain ⟨u, rfl, ru⟩ := vals1 r
  obtain ⟨as, hr, hn⟩ := Dx.reads I hd ru
  cases (show u = Value.ref a from ru)
  exact repr_of_reads' hr (mild_show d hm) (fun _ => hn) hG (by omega) (fun _ _ e => e) (fun h' u tk hk => ⟨.str d.shown, H, I.kept (t' := tk) hk, ⟨_, rfl⟩, q⟩) (Nat.le_trans (shown_le d hm) (by rw [sizeLine_eq]; exact hc))
mutual
theorem dp_reads {pins : List (Addr × Obj)} {σ : L2.St} {H : Hp} {s : Shared} (I : Inv X pins σ H s) : ∀ {v : V} {d : PyData}, Dp X.K H v d → d.hasDict = false
  | _, _, .non => by simp only [PyData.hasDict]
  | _, _, .bl _ => by simp only [PyData.hasDict]
  | _, _, .int _ => by simp only [PyData.hasDict]
  | _, _, .str _ => by simp only [PyData.hasDict]
  | _, _, .lst _ ha => by
    simp only [PyData.hasDict]
    exact dpAll_reads I ha
  | _, _, .tup _ ha => by
    simp only [PyData.hasDict]
    exact dpAll_reads I ha
theorem dpAll_reads {pins : List (Addr × Obj)} {σ : L2.St} {H : Hp} {s : Shared} (I : Inv X pins σ H s) : ∀ {vs : List V} {ds : List PyData}, DpAll X.K H vs ds → PyData.hasDictAll ds = false
  | _, _, .nil => by simp only [PyData.hasDictAll]
  | _, _, .cons h t => by simp only [PyData.hasDictAll, dp_reads I h, dpAll_reads I t, Bool.or_self]
end
def rReprD (K : PySem.W.Frag) : List V → Hp → VK → Prop := fun xs H Q => ∃ (a : Addr) (d : PyData), xs = [.ref a] ∧ Dp K H (.ref a) d ∧ mild d = true ∧ d.depth ≤ 64 ∧ cap d ≤ 16777216 ∧ Q (.str d.shown) H
theorem call_reprD (hG : NoG X.A) (hu : X.A.units + 70 < cLine) : CallR X (.builtin "repr") (rReprD X.K) := by
  intro pins s σ H xs us Q I r h
  obtain ⟨a, d, rfl, hd, hm, hdp, hc, q⟩ := h
  obtain ⟨u, rfl, ru⟩ := vals1 r
  obtain ⟨as, hr⟩ := Dp.reads I d _ u hd ru
  cases (show u = Value.ref a from ru)
  exact repr_of_reads' hr (mild_show d hm) (PyData.noDict_hsm (dp_reads I hd)) hG (by omega) (fun _ _ e => e) (fun h' u tk hk => ⟨.str d.shown, H, I.kept (t' := tk) hk, ⟨_, rfl⟩, q⟩) (Nat.le_trans (shown_le d hm) (by rw [sizeLine_eq]; exact hc))
/-! ### lists that are known to stand elsewhere than the table of modules -/
variable {es : List Expr} {t : TA} {pos : Pos}
def tLstB (t : TA) : TE := fun σ H Q => t σ H fun xs H1 => xs.length ≤ sizeLine ∧ ∀ p, H1 p = none → p ≠ sysModules → Q (.ref p) (upd H1 p (.lst xs))
theorem pe_lstB (h : PA X es t) : PE X (.List es pos) (tLstB t) := by
  refine ⟨fun pins s σ H Q I hq => wpAny_List_spliced (thn (h.run pos pins s σ H _ I hq) fun us s1 ⟨xs, H1, I1, r, z, q⟩ => ⟨by rw [← r.length]; exact z, ?_⟩)⟩
  exact ⟨.ref s1.heap.objs.size, upd H1 s1.heap.objs.size (.lst xs), I1.laid (t' := s1.toks) (fun b u e => Heap.get?_push_of_some _ e) (Nat.le_refl _) ⟨z, us, 0, r, Heap.get?_push_size _ rfl⟩, rfl, q _ (I1.hok.fresh (Nat.le_refl _)) (Nat.ne_of_gt I1.big)⟩
def rCatB : R2 := fun x y H Q => ∃ l b xs zs, x = .ref l ∧ y = .ref b ∧ H l = some (.lst xs) ∧ H b = some (.lst zs) ∧ xs.length + zs.length ≤ sizeLine ∧ ∀ p, H p = none → p ≠ sysModules → Q (.ref p) (upd H p (.lst (xs ++ zs)))
theorem op_catB : OpR X (binaryOp .Add) rCatB := by
  intro pins s σ H x y v u Q I rx ry h
  obtain ⟨l, b, xs, zs, rfl, rfl, hH, hB, hz, q⟩ := h
  cases rx
  cases ry
  obtain ⟨z, its, n, r, hl, e⟩ := I.lstM hH
  obtain ⟨z2, its2, n2, r2, hl2, e2⟩ := I.lstM hB
  refine PySem.P.add_list e e2 ?_ (by rw [List.size_toArray, List.size_toArray]; omega)
  rw [show its.toArray ++ its2.toArray = (its ++ its2).toArray by simp]
  exact ⟨.ref _, _, I.lnew (t' := s.toks) (r.append r2) (by rw [List.length_append]; omega), rfl, q _ I.fresh (Nat.ne_of_gt I.big)⟩
end
end Tw
/-! Tw, part 3: errors of own classes as values. -/
namespace Tw
open PySem PySem.Spec PyProof.Rows L2

/-- at a: an error of the class at C (made or caught), its own dict at d -/
def exT (a C : Addr) (d : Option Addr) : HO := .ext fun h => ∃ (oe : Obj) (vs : Array Value), h.get? a = some oe ∧ Zc (.ref C) d oe ∧ oe.data = .fields vs
theorem exT_ok {P : Program} {w : World} {H : Hp} {h : Heap} {a C : Addr} {d : Option Addr} {oe : Obj} {vs : Array Value} (e : h.get? a = some oe) (z : Zc (.ref C) d oe) (hd : oe.data = .fields vs) : ObjOk P w H h a (exT a C d) :=
  ⟨⟨oe, vs, e, z, hd⟩, ⟨oe, e⟩, fun _ _ ⟨o, v, q, r⟩ k => ⟨o, v, k o q, r⟩⟩
def IsX (H : Hp) (a C : Addr) (d : Option Addr) : Prop := H a = some (exo a C d) ∨ H a = some (exT a C d)
def IsXd (H : Hp) (d : Addr) (fs : List (Str × V)) : Prop := H d = some (exd d fs) ∨ H d = some (.xd fs)
theorem IsX.get {P : Program} {w : World} {H : Hp} {h : Heap} {a C : Addr} {d : Option Addr} (hok : HOk P w H h) (x : IsX H a C d) : ∃ (oe : Obj) (vs : Array Value), h.get? a = some oe ∧ Zc (.ref C) d oe ∧ oe.data = .fields vs := by
  rcases x with e | e
  · obtain ⟨t1, q⟩ := exo_at hok e
    exact ⟨_, _, q, ⟨rfl, rfl⟩, rfl⟩
  · have x : ObjOk P w H h a (.ext fun h => ∃ (oe : Obj) (vs : Array Value), h.get? a = some oe ∧ Zc (.ref C) d oe ∧ oe.data = .fields vs) := hok a _ e
    exact x.1
theorem IsXd.get {P : Program} {w : World} {H : Hp} {h : Heap} {d : Addr} {fs : List (Str × V)} (hok : HOk P w H h) (x : IsXd H d fs) : ∃ mA, h.Ns1 d mA ∧ ∀ f, RelO (fs.lookup f) (mA f) := by
  rcases x with e | e
  · exact exd_at hok e
  · exact (show ObjOk P w H h d (.xd fs) from hok d _ e)
theorem IsX.same {H H' : Hp} {a C : Addr} {d : Option Addr} (e : Same H H') (x : IsX H a C d) : IsX H' a C d := x.imp (e _ _) (e _ _)
theorem IsXd.same {H H' : Hp} {d : Addr} {fs : List (Str × V)} (e : Same H H') (x : IsXd H d fs) : IsXd H' d fs := x.imp (e _ _) (e _ _)

/-- what the written part says of an error class -/
structure XC (K : PySem.W.Frag) (C : Addr) : Prop where
  ox : OexC K C
  ga : PySem.W.findIn K (.ref C) "__getattribute__" = some (some (.builtin "BaseException.__getattribute__"))
  gg : PySem.W.findIn K (.ref C) "__getattr__" = some none
  hd : PySem.W.hasDictIn K C = true
  ca : PySem.W.findIn K (.ref C) "__class__" = some (some (.builtin "object.__class__"))
  cm : PySem.W.mroIn K C (.type "object") = some true
/-- what it says of object.__class__ -/
structure XO (K : PySem.W.Frag) : Prop where
  hn : PySem.W.specialIn K (.builtin "object.__class__") "__get__" = some (some (.builtin "getset_descriptor.__get__"))
  ht : PySem.W.takesIn K (.builtin "object.__class__") = some true
theorem oexC_cl {K : PySem.W.Frag} {C : Addr} (T : OexC K C) : (PySem.W.clsIn K C).isSome = true := by
  obtain ⟨nm, q, N, bs, bm, sn, sub, ab, col, dd, k0, k1, k2, k3, k5, hC, _⟩ := T.cls
  unfold PySem.W.clsIn
  rw [hC]
  rfl
section
variable {X : Cx} {CX : CXT} {k : Nat} {fI C : Addr} {fd : FuncData} {ps : List Str} {sp : Sp} {dvs : List V} {ds : List Value} {E : XK} {x f : Str} {p pos : Pos} {e : Expr} {es : List Expr} {ta : TA} {te : TE}
/-- C(e, ..) as a value, C an error class whose __init__ keeps sp -/
def tMkX (C : Addr) (sp : Sp) (dvs : List V) (ta : TA) : TE := fun σ H Q => ta σ H fun vs H1 => vs.length ≤ 1000 ∧ ∀ a, H1 a = none → sp (.ref a :: (vs ++ dvs)) (upd H1 a (exo a C none)) (fun v H2 => v = .non ∧ Q (.ref a) H2) (fun _ _ _ => False)
theorem pe_mkX (T : OexC X.K C) (iC : PySem.W.findIn X.K (.ref C) "__init__" = some (some (.ref fI))) (tI : PySem.W.typeIn X.K (.ref fI) = some (.type "function"))
    (F1 : FnOk X.prog X.w X.K X.mg X.base CX k fI fd ps sp) (hr : Room (k + 1) X.A) (hb : Binds X.K fd ps ds) (hd : Vals dvs ds) (hx : Passes CX X (fun _ _ _ => False)) (hg : Gl X x) (hm : X.mg x = some (.ref C)) (ha : PA X (e :: es) ta)
    (hdb : (x == ("__debug__" : Str)) = false := by decide) (he : starEach (e :: es) X.env = (false, eval e X.env) :: starEach es X.env := by rfl) (hpl : (backTo pos (starEach es X.env)).any (·.1) = false := by rfl) :
    PE X (.Call (.Name x p) (e :: es) [] pos) (tMkX C sp dvs ta) := by
  refine ⟨fun pins s σ H Q I h => ?_⟩
  obtain ⟨nm, q, N, bs, bm, sn, sub, ab, col, dd, k0, k1, k2, k3, k5, hC, hbm⟩ := T.cls
  refine wpAny_Call_Name_kw (ld_glob I hg hm ?_ hdb)
  refine PySem.W.callWith_K (h₀ := X.base) I.ok.mod.kin T.kC (thn (ha.run pos pins s σ H _ I h) fun us s1 ⟨vs, H1, I1, r1, hz, q1⟩ => ⟨I1.kIn, ?_⟩) he hpl
  show wpAny _ _ (call (.ref C) us) _ _ _
  obtain ⟨hp, g, dr, tk, os⟩ := s1
  have hsz : hp.objs.size ≤ hp.objs.size + 1 := Nat.le_succ _
  have hq := q1 (hp.objs.size + 1) (I1.hok.fresh hsz)
  have kk : ∀ b o, hp.get? b = some o → ((hp.push (PySem.W.kdv_tup us)).push (PySem.HandSPX.excO C hp.objs.size)).get? b = some o := fun b o z => Heap.get?_push_of_some _ (Heap.get?_push_of_some _ z)
  have hget : ((hp.push (PySem.W.kdv_tup us)).push (PySem.HandSPX.excO C hp.objs.size)).get? (hp.objs.size + 1) = some (PySem.HandSPX.excO C hp.objs.size) := by heap_get
  have I2 := I1.laid (t' := tk) (a := hp.objs.size + 1) (o := exo (hp.objs.size + 1) C none) (h' := (hp.push (PySem.W.kdv_tup us)).push (PySem.HandSPX.excO C hp.objs.size)) kk hsz (exo_ok hget)
  have r2 : Vals (V.ref (hp.objs.size + 1) :: (vs ++ dvs)) (Value.ref (hp.objs.size + 1) :: (us ++ ds)) := .cons rfl (r1.append hd)
  have hl : (Value.ref (hp.objs.size + 1) :: us ++ ds).length = ps.length := r2.length.symm.trans (F1.len _ _ _ _ hq)
  have hus : us.length ≤ sizeLine := by
    rw [← Paired.length r1, sizeLine_eq]
    omega
  refine wpAny_call (PySem.HandSPX.call_own F.excBase_ValueError (fun Y => PySem.HandSPX.refsVE_contains Y bm hbm) (I1.kIn _ _ hC) (PySem.W.looks_findIn I1.kIn iC) (fun self => PySem.W.bind_fn I1.kIn self tI) hus
    (codeAny_mono (F1.run _ X.stack _ _ ⟨Value.ref (hp.objs.size + 1) :: us, []⟩ (Value.ref (hp.objs.size + 1) :: (us ++ ds)) _ _ (fun _ _ _ => False) (hr.make C us []) (I2.env0.make C us []) (hb _ (Value.ref (hp.objs.size + 1) :: us) I2.kIn hl) r2 hq) fun r s' hq' => ?_))
  match r, hq' with
  | .error er, hq' => exact hx pins σ _ _ er s' I2 hq'
  | .ok (.ret u), hq' =>
    obtain ⟨v, H2, os2, bare2, un2, hok2, rv, ev, q2⟩ := hq'
    subst ev
    obtain ⟨h2, g2, d2, t2, os'⟩ := s'
    obtain rfl : os' = os := os2
    exact ⟨rv, .ref (hp.objs.size + 1), H2, I2.call (h' := h2) (g' := g2) (d' := d2) (t' := t2) (ch := []) un2 hok2 bare2 (fun b z => nomatch z), rfl, q2⟩
/-- e.f, e an error -/
def tXfld (K : PySem.W.Frag) (f : Str) (te : TE) : TE := fun σ H Q => te σ H fun x H1 => ∃ (a C d : Addr) (fs : List (Str × V)) (v : V), x = .ref a ∧ IsX H1 a C (some d) ∧ XC K C ∧ PySem.W.findIn K (.ref C) f = some none ∧ IsXd H1 d fs ∧ fs.lookup f = some v ∧ Q v H1
theorem pe_xfld (he : PE X e te) (hb : attributeBase e f X.env (eval e X.env) = eval e X.env := by rfl) : PE X (.Attribute e f pos) (tXfld X.K f te) := by
  refine ⟨fun pins s σ H Q I h => attr_of hb (thn (he.run pins s σ H _ I h) fun u s1 hh => ?_)⟩
  obtain ⟨x, H1, I1, rx, a, C, d, fs, v, ex, ia, T, hno, idd, hl, q⟩ := hh
  subst ex
  obtain rfl : u = Value.ref a := rx
  obtain ⟨oe, vs, ho, hz, hdt⟩ := ia.get I1.hok
  obtain ⟨mA, hns, hr⟩ := idd.get I1.hok
  obtain ⟨od, hod, hlk⟩ := lookIn_ns hns
  obtain ⟨u, hu, ru⟩ := RelO.some_of (v := v) (o := mA f) (by rw [← hl]; exact hr f)
  have J : PySem.W.InstAt s1.heap a oe C (some od) := ⟨ho, hz.1, by unfold PySem.W.notCls; rw [hdt] <;> rfl, by rw [hz.2]; exact hod⟩
  exact HandSPX.exc_get I1.kIn J T.ga T.gg T.ox.exC (PySem.W.findObj_own T.hd hno rfl (by rw [hlk, hu])) (handed_of ru) ⟨v, H1, I1.tok _, ru, q⟩
/-- isinstance(x, c), x anything that is known, errors too -/
def rIsA (K : PySem.W.Frag) : List V → Hp → VK → Prop := fun xs H Q => ∃ (x c : V) (t u : Value) (b : Bool), xs = [x, c] ∧ ClsV c u ∧ (TyX K H x t ∨ ∃ (a C : Addr) (d : Addr) (fs : List (Str × V)), x = .ref a ∧ t = .ref C ∧ IsX H a C (some d) ∧ IsXd H d fs ∧ XC K C ∧ XO K) ∧ PySem.W.kitOne K t u = some b ∧ Q (.bl b) H
theorem call_isA : CallR X (.builtin "isinstance") (rIsA X.K) := by
  intro pins s σ H xs us Q I r h
  obtain ⟨x, c, t, u, b, rfl, k, ty, e, q⟩ := h
  obtain ⟨u1, u2, rfl, r1, r2⟩ := vals2 r
  have e2 := k.eq r2
  subst e2
  rcases ty with ty | ⟨a, C, d, fs, rfl, rfl, ia, idd, T, O⟩
  · obtain ⟨P, Z, p, hx⟩ := kit_of I r1 ty
    exact PySem.W.kia_one Z I.kIn p e hx fun tk => ⟨.bl b, H, I.tok tk, rfl, q⟩
  · cases (show u1 = Value.ref a from r1)
    obtain ⟨oe, vs, ho, hz, hdt⟩ := ia.get I.hok
    obtain ⟨mA, hns, hr⟩ := idd.get I.hok
    obtain ⟨od, hod, hlk⟩ := lookIn_ns hns
    have J : PySem.W.InstAt s.heap a oe C (some od) := ⟨ho, hz.1, by unfold PySem.W.notCls; rw [hdt] <;> rfl, by rw [hz.2]; exact hod⟩
    exact PySem.W.kia_one (PySem.W.kitx_exc (od := some od) (oexC_cl T.ox) T.ga T.gg T.ox.exC T.ca O.hn O.ht T.cm) I.kIn J e (fun z => nomatch z) fun tk => ⟨.bl b, H, I.tok tk, rfl, q⟩
end
end Tw
/-! Tw, part 4: the head's facts by names, error classes too. -/
namespace Tw
open PySem PySem.Spec PyProof.Rows L2 He
abbrev Fg := PySem.W.Frag
def excB (K : Fg) (C : Addr) : Bool := match K.lookup C with
  | some ⟨.type t, _, .cls cd, sl⟩ => (match cd.mro, sl.toList with
    | .ref C' :: bm, [_, _, _, _, some (.builtin n), _] => decide (t = "type") && (decide (C' = C) && (decide (n = "ValueError.__new__") && (!cd.hasDel && (cd.hasDict && PySem.HandSPX.refsVE bm))))
    | _, _ => false)
  | _ => false
theorem excB_ok {K : Fg} {C : Addr} (h : excB K C = true) : ∃ nm q N bs bm sn sub ab col dd k0 k1 k2 k3 k5, K.lookup C = some (excClassObj nm q C N bs bm true sn sub ab col dd k0 k1 k2 k3 k5 "ValueError.__new__") ∧ PySem.HandSPX.refsVE bm = true := by
  unfold excB at h
  cases e : K.lookup C with
  | none =>
    rw [e] at h
    cases h
  | some o =>
    rw [e] at h
    obtain ⟨oc, od, dt, sl⟩ := o
    cases oc with
    | type t =>
      cases dt with
      | cls cd =>
        obtain ⟨nm, bs, mro, ns, q, hd, sn, sb, ab, col, del⟩ := cd
        dsimp only at h
        obtain ⟨sl⟩ := sl
        dsimp only at h
        match mro, sl, h with
        | .ref C' :: bm, [k0, k1, k2, k3, some (.builtin n), k5], h =>
          obtain ⟨h1, h⟩ := ba h
          obtain ⟨h2, h⟩ := ba h
          obtain ⟨h3, h⟩ := ba h
          obtain ⟨h4, h⟩ := ba h
          obtain ⟨h5, h6⟩ := ba h
          have e1 := of_decide_eq_true h1
          have e2 := of_decide_eq_true h2
          have e3 := of_decide_eq_true h3
          subst e1 e2 e3
          have e4 : del = false := by simpa using h4
          subst e4
          subst h5
          exact ⟨_, _, _, _, _, _, _, _, _, _, _, _, _, _, _, rfl, h6⟩
      | _ => cases h
    | _ => cases h
inductive Fy where
  | fa (f : Fa)
  | xc (x : Str)
  | xo
  | ini (x : Str)
  | kit (x y : Str) (b : Bool)
  | kitT (x : Str) (T : String) (b : Bool)
  | names (x : Str) (zs : List Str)
def Fy.ok (K : Fg) : Fy → Bool
  | .fa f => f.ok K
  | .xc x => excB K (ga K x) && (eqO (PySem.W.findIn K (.ref (ga K x)) "__setattr__") (some (some (.builtin "object.__setattr__"))) && (decide (PySem.W.subIn K (.ref (ga K x)) (.type "BaseException") = some true) && (decide (PySem.W.typeIn K (.ref (ga K x)) = some (.type "type")) &&
      (PySem.W.keepIn K (.ref (ga K x)) && (eqO (PySem.W.findIn K (.ref (ga K x)) "__getattribute__") (some (some (.builtin "BaseException.__getattribute__"))) && (eqO (PySem.W.findIn K (.ref (ga K x)) "__getattr__") (some none) &&
      (PySem.W.hasDictIn K (ga K x) && (eqO (PySem.W.findIn K (.ref (ga K x)) "__class__") (some (some (.builtin "object.__class__"))) && decide (PySem.W.mroIn K (ga K x) (.type "object") = some true)))))))))
  | .xo => eqO (PySem.W.specialIn K (.builtin "object.__class__") "__get__") (some (some (.builtin "getset_descriptor.__get__"))) && decide (PySem.W.takesIn K (.builtin "object.__class__") = some true)
  | .ini x => eqO (PySem.W.findIn K (.ref (ga K x)) "__init__") (some (some (.ref (ma K (ga K x) "__init__")))) && decide (PySem.W.typeIn K (.ref (ma K (ga K x) "__init__")) = some (.type "function"))
  | .kit x y b => decide (PySem.W.kitOne K (.ref (ga K x)) (.ref (ga K y)) = some b)
  | .kitT x T b => decide (PySem.W.kitOne K (.ref (ga K x)) (.type T) = some b)
  | .names x zs => zs.all fun z => eqO (PySem.W.findIn K (.ref (ga K x)) z) (some none)
section
variable {K : Fg} {h : Heap} {mg : Str → Option Value}
theorem xc_ok {x : Str} (c : (Fy.xc x).ok K = true) : XC K (ga K x) := by
  obtain ⟨c1, c⟩ := ba c
  obtain ⟨c2, c⟩ := ba c
  obtain ⟨c3, c⟩ := ba c
  obtain ⟨c4, c⟩ := ba c
  obtain ⟨c5, c⟩ := ba c
  obtain ⟨c6, c⟩ := ba c
  obtain ⟨c7, c⟩ := ba c
  obtain ⟨c8, c⟩ := ba c
  obtain ⟨c9, c10⟩ := ba c
  exact ⟨⟨excB_ok c1, eqO_ok c2, of_decide_eq_true c3, of_decide_eq_true c4, c5⟩, eqO_ok c6, eqO_ok c7, c8, eqO_ok c9, of_decide_eq_true c10⟩
theorem xo_ok (c : Fy.xo.ok K = true) : XO K := by
  unfold Fy.ok at c
  obtain ⟨c1, c2⟩ := ba c
  exact ⟨eqO_ok c1, of_decide_eq_true c2⟩
theorem ini_ok {x : Str} (c : (Fy.ini x).ok K = true) : PySem.W.findIn K (.ref (ga K x)) "__init__" = some (some (.ref (ma K (ga K x) "__init__"))) ∧ PySem.W.typeIn K (.ref (ma K (ga K x) "__init__")) = some (.type "function") := by
  obtain ⟨c1, c2⟩ := ba c
  exact ⟨eqO_ok c1, of_decide_eq_true c2⟩
theorem kit_ok {x y : Str} {b : Bool} (c : (Fy.kit x y b).ok K = true) : PySem.W.kitOne K (.ref (ga K x)) (.ref (ga K y)) = some b := of_decide_eq_true c
theorem kitT_ok {x : Str} {T : String} {b : Bool} (c : (Fy.kitT x T b).ok K = true) : PySem.W.kitOne K (.ref (ga K x)) (.type T) = some b := of_decide_eq_true c
theorem names_ok {x : Str} {zs : List Str} (c : (Fy.names x zs).ok K = true) {z : Str} (hz : z ∈ zs) : PySem.W.findIn K (.ref (ga K x)) z = some none := eqO_ok (List.all_eq_true.mp c z hz)
end
/-! ### the hook: any truths of the written part, in groups -/
abbrev Fz := List (Fg → Bool)
def obsY (fs : Fz) (fn : List DefD) (K : Fg) : AlD := ((fs.all fun f => f K) && fn.all fun d => d.ok K, fn.map fun d => fnW K d.at_)
def SaysY (fs : Fz) (fn : List DefD) (K : Fg) : Prop := obsY fs fn K = valD fn
def obsYG (n : Nat) (fs : Fz) (fn : List DefD) (g : Addr → Option Obj) : AlD := obsY fs fn (frG g (asD g n))
def hookY (n : Nat) (fs : Fz) (fn : List DefD) : PySem.W.Hook where
  α := AlD
  obs := fun s => obsYG n fs fn s.heap.get?
  val := fun _ => valD fn
  says := fun _ h => ∃ K : Fg, K.In h ∧ SaysY fs fn K
  of := fun _ _ e => ⟨_, frG_in, e⟩
  keeps := fun _ _ _ ⟨K, hK, c⟩ k => ⟨K, PySem.W.Frag.In.keeps hK k, c⟩
theorem obsYG_eq {n : Nat} {fs : Fz} {fn : List DefD} {g : Addr → Option Obj} {s : Shared} (h : ∀ a, g a = s.heap.get? a) : obsYG n fs fn g = (hookY n fs fn).obs s := by
  have e : g = s.heap.get? := funext h
  rw [e] <;> rfl
section
variable {fs : Fz} {fn : List DefD} {K : Fg}
theorem SaysY.fact (c : SaysY fs fn K) (i : Nat) {f : Fg → Bool} (h : fs[i]? = some f := by rfl) : f K = true := by
  have c1 := (ba (show ((fs.all fun f => f K) && fn.all fun d => d.ok K) = true from congrArg (fun z : AlD => z.1) c)).1
  exact List.all_eq_true.mp c1 f (List.mem_of_getElem? h)
theorem SaysY.def_ (c : SaysY fs fn K) (i : Nat) {d : DefD} (h : fn[i]? = some d := by rfl) : ∃ fd, FunD K d.name d.qual d.params d.body d.scope (d.dvs K) (d.kws K) (fAd K d.at_) fd := by
  have c2 := (ba (show ((fs.all fun f => f K) && fn.all fun d => d.ok K) = true from congrArg (fun z : AlD => z.1) c)).2
  have e : fn.map (fun d => fnW K d.at_) = fn.map DefD.val := congrArg (fun z : AlD => z.2) c
  have e2 : (fn.map fun d => fnW K d.at_)[i]? = (fn.map DefD.val)[i]? := by rw [e]
  rw [List.getElem?_map, List.getElem?_map, h] at e2
  exact DefD.funD (Option.some.inj e2) (List.all_eq_true.mp c2 d (List.mem_of_getElem? h))
/-- a group told of each item of a list -/
theorem of_all {α : Type} {l : List α} {f : α → Bool} (h : l.all f = true) {x : α} (hx : x ∈ l) : f x = true := List.all_eq_true.mp h x hx
end
/-! ### defs as data -/
abbrev FnP (K : Fg) (x qual : Str) (st : Stmt) (f : Addr) (fd : FuncData) : Prop := FunD K x qual (defArgs st) (defBody st) (defScope st) [] [] f fd
theorem _root_.L2.FunD.okG {P : Program} {w : World} {K : Fg} {mg : Str → Option Value} {base : Heap} {CX : CXT} {x qual : Str} {params : Arguments} {body : List Stmt} {scope : Scope} {dvs : List V} {kws : List (Str × V)} {f : Addr} {fd : FuncData} {N ps : List Str} {k : Nat} {sp : Sp}
    (F : FunD K x qual params body scope dvs kws f fd) (S : FnScope N ps scope) (len : ∀ vs H Q E, sp vs H Q E → vs.length = ps.length)
    (hbody : ∀ (cdv : Value) (A : Around) (outer : List Env) (s : Shared) (H : Hp) (vs : List V) (Q : VK) (E : XK), Room k (A.deeper (envOfC qual scope s.heap.objs.size f cdv)) → NoG (A.deeper (envOfC qual scope s.heap.objs.size f cdv)) → sp vs H Q E →
      ∃ t, PSs (cxOf CX P w K mg base N qual scope f cdv A outer s H E) body t ∧ t { nx := fun _ H' => Q .non H', rt := Q } (start N vs) H) : FnG P w K mg base CX (k + 1) f fd ps sp := by
  obtain ⟨oc, od, dV, kV, doc, pm, an, cdv, ct, osl, rfl, lk, hcd, _, _⟩ := F.ex
  exact fng lk hcd S len fun A outer s H vs Q E hr hg hsp => hbody cdv A outer s H vs Q E hr hg hsp
/-! ### the law's end over facts -/
theorem walk_ofEG {l : PySem.W.OpenLaw} {n k : Nat} {q : Program} {loose : List Str} {XP : (Str → Option Value) → Heap → Prop} {YP : World → Heap → Prop} {d : DefRec} {CX : CXT} {x : Str}
    (hn : l.most = some n) (hn2 : n ≤ sizeLine) (hdf : d.params.defaults = []) (hr : Room k callerA)
    (F : ∀ (w : World) (mg : Str → Option Value) (fa : Addr) (h : Heap), YP w h → h.Ns mainGlobals mg → mg d.name = some (.ref fa) →
      ∃ (K : Fg) (fd : FuncData) (sp : Sp), K.In h ∧ (∀ (s : Shared) (u : Value), BindsTo s fd ⟨[u], []⟩ [(x, u)]) ∧
        (∀ (H : Hp) (a : Addr) (ns : List Int), ns.length ≤ n → Only H → SqL K H a (ns.map V.int) → sp [.ref a] H (fun v _ => v = .bl true) fun _ _ _ => False) ∧
        ∀ base : Heap, K.In base → base.Ns mainGlobals mg → FnG l.prog w K mg base CX k fa fd [x] sp)
    (hCX : ∀ (H : Hp) (s : Shared) (e : Value) (s' : Shared), CX [] H s (fun _ _ _ => False) e s' → False) :
    PySem.W.WalkO q loose XP YP l.row.toRowW d [] (fun f vs => PySem.call f vs) := by
  refine Att.attach_call hn hdf fun w s₀ s₁ mg mb fa o pm cd doc a vs ns G Y ho hd hcd hmg hobj hints hlen hg => ?_
  obtain ⟨K, fd, sp, KX, hb, hsp, hF⟩ := F w mg fa _ Y G.T.g hmg
  exact law_endG KX G.T.g G.T.b G.T.builtins G.T.nolimit hg hobj hints (Nat.le_trans hlen hn2) hr hF hb (fun H hO hS => hsp H a ns hlen hO hS) fun H e s' => hCX H s₁ e s'
end Tw
/-! Tw: new objects, told by what holds of the heap behind them alone. -/
namespace Tw
open PySem PySem.Spec PyProof.Rows L2
theorem same_new {H : Hp} {p : Addr} {o : HO} (h : H p = none) : Same H (upd H p o) := fun b u e => by
  rw [upd_ne (ne_of_none e h)]
  exact e
section
variable {X : Cx} {es : List Expr} {t : TA} {pos : Pos}
/-- a new object o: its place, the heap behind -/
def New (H : Hp) (o : HO) (Q : Addr → Hp → Prop) : Prop := ∀ (p : Addr) (H' : Hp), H p = none → p ≠ sysModules → Same H H' → H' p = some o → Q p H'
theorem New.at {H : Hp} {o : HO} {Q : Addr → Hp → Prop} (h : New H o Q) {p : Addr} (h1 : H p = none) (h2 : p ≠ sysModules) : Q p (upd H p o) := h p _ h1 h2 (same_new h1) upd_same
def tLstN (t : TA) : TE := fun σ H Q => t σ H fun xs H1 => xs.length ≤ sizeLine ∧ New H1 (.lst xs) fun p H' => Q (.ref p) H'
theorem pe_lstN (h : PA X es t) : PE X (.List es pos) (tLstN t) := by
  refine ⟨fun pins s σ H Q I hq => wpAny_List_spliced (thn (h.run pos pins s σ H _ I hq) fun us s1 ⟨xs, H1, I1, r, z, q⟩ => ⟨by rw [← r.length]; exact z, ?_⟩)⟩
  exact ⟨.ref s1.heap.objs.size, upd H1 s1.heap.objs.size (.lst xs), I1.laid (t' := s1.toks) (fun b u e => Heap.get?_push_of_some _ e) (Nat.le_refl _) ⟨z, us, 0, r, Heap.get?_push_size _ rfl⟩, rfl, q.at (I1.hok.fresh (Nat.le_refl _)) (Nat.ne_of_gt I1.big)⟩
def tTupN (t : TA) : TE := fun σ H Q => t σ H fun xs H1 => xs.length ≤ sizeLine ∧ ∀ (p : Addr) (H' : Hp), H1 p = none → Same H1 H' → H' p = some (.tup xs) → Q (.ref p) H'
theorem pe_tupN {x1} (h : PA X es t) : PE X (.Tuple es x1 pos) (tTupN t) := by
  refine ⟨fun pins s σ H Q I hq => wpAny_Tuple_spliced (thn (h.run pos pins s σ H _ I hq) fun us s1 ⟨xs, H1, I1, r, z, q⟩ => ⟨by rw [← r.length]; exact z, ?_⟩)⟩
  have hf : H1 s1.heap.objs.size = none := I1.hok.fresh (Nat.le_refl _)
  exact ⟨.ref s1.heap.objs.size, upd H1 s1.heap.objs.size (.tup xs), I1.laid (t' := s1.toks) (fun b u e => Heap.get?_push_of_some _ e) (Nat.le_refl _) ⟨z, us, r, _, Heap.get?_push_size _ rfl, rfl, 0, rfl⟩, rfl, q _ _ hf (same_new hf) upd_same⟩
def tDnewN : TE := fun _ H Q => New H (.dK []) fun p H' => Q (.ref p) H'
theorem pe_dnewN : PE X (.Dict [] [] pos) tDnewN := ⟨fun pins s σ H Q I h =>
  wpAny_Dict_empty ⟨.ref s.heap.objs.size, _, I.laid (a := s.heap.objs.size) (o := .dK []) (t' := s.toks) (fun _ _ q => Heap.get?_push_of_some _ q) (Nat.le_refl _) (dk_empty s.heap I.big), rfl, h.at (I.hok.fresh (Nat.le_refl _)) (Nat.ne_of_gt I.big)⟩⟩
def rCatN : R2 := fun x y H Q => ∃ l b xs zs, x = .ref l ∧ y = .ref b ∧ H l = some (.lst xs) ∧ H b = some (.lst zs) ∧ xs.length + zs.length ≤ sizeLine ∧ New H (.lst (xs ++ zs)) fun p H' => Q (.ref p) H'
theorem op_catN : OpR X (binaryOp .Add) rCatN := by
  intro pins s σ H x y v u Q I rx ry h
  obtain ⟨l, b, xs, zs, rfl, rfl, hH, hB, hz, q⟩ := h
  cases rx
  cases ry
  obtain ⟨z, its, n, r, hl, e⟩ := I.lstM hH
  obtain ⟨z2, its2, n2, r2, hl2, e2⟩ := I.lstM hB
  refine PySem.P.add_list e e2 ?_ (by rw [List.size_toArray, List.size_toArray]; omega)
  rw [show its.toArray ++ its2.toArray = (its ++ its2).toArray by simp]
  exact ⟨.ref _, _, I.lnew (t' := s.toks) (r.append r2) (by rw [List.length_append]; omega), rfl, q.at I.fresh (Nat.ne_of_gt I.big)⟩
end
end Tw
namespace Tw
open PySem PySem.Spec PyProof.Rows L2
theorem room70 {k : Nat} {A : Around} (r : Room k A) : A.units + 70 < cLine := by
  have := r.un
  omega
section
variable {X : Cx} {K : PySem.W.Frag}
theorem ixl (K : PySem.W.Frag) (h : X.K = K := by rfl) : IxR X (rIxL K) := by
  subst h
  exact ix_list
theorem ixt (K : PySem.W.Frag) (h : X.K = K := by rfl) : IxR X (rIxT K) := by
  subst h
  exact ix_tup
end
end Tw
/-! Tw, part 5: the pen that draws. -/
namespace Tw
open PySem PySem.Spec PyProof.Rows L2 He
/-- a statement, what holds behind it on every way, the rest once -/
def tMid (t u : TS) : TS := fun D σ H => ∃ W : L2.St → Hp → Prop, t { D with nx := W } σ H ∧ ∀ σ' H', W σ' H' → u D σ' H'
theorem pss_mid {X : Cx} {st : Stmt} {rest : List Stmt} {t u : TS} (h1 : PS X st t) (h2 : PSs X rest u) : PSs X (st :: rest) (tMid t u) :=
  ⟨fun pins s σ H D I ⟨W, hm, hu⟩ => wpAny_execs_cons (thn (h1.run pins s σ H { D with nx := W } I hm) fun f s1 q => match f, q with
    | .next, ⟨σ', H', I', q⟩ => h2.run pins s1 σ' H' D I' (hu σ' H' q)
    | .ret _, q => q
    | .brk, q => q
    | .cont, q => q)⟩
/-- all that was tracked but p stands -/
def But (p : Addr) (H H' : Hp) : Prop := ∀ b o, H b = some o → b ≠ p → H' b = some o
theorem But.refl {p : Addr} (H : Hp) : But p H H := fun _ _ e _ => e
theorem But.trans {p : Addr} {H H1 H2 : Hp} (a : But p H H1) (b : But p H1 H2) : But p H H2 := fun c o e h => b c o (a c o e h) h
theorem But.of {p : Addr} {H H' : Hp} (e : Same H H') : But p H H' := fun b o h _ => e b o h
theorem But.upd {p : Addr} {H : Hp} {o : HO} : But p H (upd H p o) := fun b u e h => by
  rw [upd_ne h]
  exact e
/-- the pen: the script's ints, the number of draws so far, what is left of a great number -/
def PenAt (H : Hp) (p : Addr) (c : Nat) : Prop := ∃ (l : Addr) (ns : List Int) (i g : Int), H p = some (.lst [.ref l, .int i, .int g]) ∧ H l = some (.lst (ns.map V.int)) ∧ l ≠ p ∧ ns.length ≤ 63 ∧ 0 ≤ i ∧ i ≤ (c : Int) ∧ 0 ≤ g
theorem PenAt.mono {H : Hp} {p : Addr} {c c' : Nat} (h : PenAt H p c) (hc : c ≤ c') : PenAt H p c' := by
  obtain ⟨l, ns, i, g, h1, h2, h3, h4, h5, h6, h7⟩ := h
  exact ⟨l, ns, i, g, h1, h2, h3, h4, h5, by omega, h7⟩
theorem PenAt.same {H H' : Hp} {p : Addr} {c : Nat} (e : Same H H') (h : PenAt H p c) : PenAt H' p c := by
  obtain ⟨l, ns, i, g, h1, h2, h3⟩ := h
  exact ⟨l, ns, i, g, e _ _ h1, e _ _ h2, h3⟩
/-- a draw: below many, the pen one further, nothing else touched -/
def spDraw : Sp := fun vs H Q _ => ∃ (p : Addr) (m : Int) (c : Nat), vs = [.ref p, .int m] ∧ 0 < m ∧ m < 1073741824 ∧ PenAt H p c ∧ c ≤ 1000000 ∧
  ∀ (r : Int) (H' : Hp), 0 ≤ r → r < m → PenAt H' p (c + 1) → But p H H' → Q (.int r) H'
theorem dp_ints {K : Fg} {H : Hp} : ∀ ns : List Int, DpAll K H (ns.map V.int) (ns.map PyData.int)
  | [] => .nil
  | n :: ns => .cons (.int n) (dp_ints ns)
theorem lay_ints : ∀ ns : List Int, PyData.canLayAll0 (ns.map PyData.int) = true ∧ PyData.depthAll (ns.map PyData.int) = 0
  | [] => ⟨rfl, rfl⟩
  | n :: ns => by
    obtain ⟨h1, h2⟩ := lay_ints ns
    constructor
    · simp only [List.map_cons, PyData.canLayAll0, PyData.canLay0, h1, Bool.and_self]
    · simp only [List.map_cons, PyData.depthAll, PyData.depth, h2, Nat.max_self]
theorem shaped_ints (ns : List Int) : SeqAt.shaped (.list (ns.map PyData.int)) = true := by
  obtain ⟨h1, h2⟩ := lay_ints ns
  simp [SeqAt.shaped, PyData.canLay0, PyData.depth, h1, h2]
theorem atI_of {xs : List V} {i : Int} {v : V} (h0 : 0 ≤ i) (h : xs[i.toNat]? = some v) : atI xs i = some v := by
  have e : i = (i.toNat : Int) := (Int.toNat_of_nonneg h0).symm
  rw [e]
  exact atI_nat h
theorem mul_le' {a b A B : Int} (h1 : 0 ≤ a) (h2 : a ≤ A) (h3 : 0 ≤ b) (h4 : b ≤ B) : 0 ≤ a * b ∧ a * b ≤ A * B :=
  ⟨Int.mul_nonneg h1 h3, Int.mul_le_mul h2 h4 h3 (Int.le_trans h1 h2)⟩
theorem pow_ok (i : Int) (h0 : 0 ≤ i) (h : i < 2 ^ 64) : i.natAbs < 2 ^ 64 := by omega
end Tw
namespace Tw
open PySem PySem.Spec PyProof.Rows L2 He
theorem But.seq {K : Fg} {p a : Addr} {H H' : Hp} {xs : List V} (e : But p H H') (hne : a ≠ p) (h : SqL K H a xs) : SqL K H' a xs := by
  rcases h with (h | ⟨o, h⟩) | h
  · exact .inl (.inl (e _ _ h hne))
  · exact .inl (.inr ⟨o, e _ _ h hne⟩)
  · exact .inr h
theorem cut_ints (ns : List Int) (lo hi : Option Int) : ∃ ms : List Int, cutV (ns.map V.int) lo hi = ms.map V.int ∧ ms.length ≤ ns.length := by
  refine ⟨(ns.drop (HT.sIx (ns.map V.int).length 0 lo)).take (HT.sIx (ns.map V.int).length (ns.map V.int).length hi - HT.sIx (ns.map V.int).length 0 lo), ?_, ?_⟩
  · unfold cutV
    rw [List.map_take, List.map_drop]
  · rw [List.length_take, List.length_drop]
    omega
/-- a new pen -/
def spPen (K : Fg) : Sp := fun vs H Q _ => ∃ (a : Addr) (ns : List Int), vs = [.ref a] ∧ SqL K H a (ns.map V.int) ∧ ns.length ≤ 63 ∧ ∀ (p : Addr) (H' : Hp), H p = none → PenAt H' p 0 → Same H H' → Q (.ref p) H'
/-- an item of a list that is not the pen, drawn -/
def spPick (K : Fg) : Sp := fun vs H Q _ => ∃ (p q : Addr) (xs : List V) (c : Nat), vs = [.ref p, .ref q] ∧ SqL K H q xs ∧ q ≠ p ∧ 0 < xs.length ∧ xs.length < 1000 ∧ PenAt H p c ∧ c ≤ 1000000 ∧
  ∀ (v : V) (H' : Hp), v ∈ xs → PenAt H' p (c + 1) → But p H H' → Q v H'
/-- the heap without the pen -/
def hid (p : Addr) (H : Hp) : Hp := fun b => if b = p then none else H b
theorem hid_ne {p b : Addr} {H : Hp} (h : b ≠ p) : hid p H b = H b := if_neg h
theorem hid_same {p : Addr} {H : Hp} : Same (hid p H) H := fun b o e => by
  unfold hid at e
  split at e
  · cases e
  · exact e
theorem hid_but {p : Addr} {H H' : Hp} (e : But p H H') : Same (hid p H) (hid p H') := fun b o h => by
  unfold hid at h ⊢
  split at h
  · cases h
  · rename_i hb
    rw [if_neg hb]
    exact e b o h hb
theorem sqT_same {K : Fg} {H H' : Hp} {a : Addr} {xs : List V} (e : Same H H') (h : SqT K H a xs) : SqT K H' a xs := by
  rcases h with (h | ⟨o, h⟩) | h
  · exact .inl (.inl (e _ _ h))
  · exact .inl (.inr ⟨o, e _ _ h⟩)
  · exact .inr h
mutual
theorem Dx.same {K : Fg} {H H' : Hp} (e : Same H H') : ∀ {v : V} {d : PyData}, Dx K H v d → Dx K H' v d
  | _, _, .non => .non
  | _, _, .bl b => .bl b
  | _, _, .int i => .int i
  | _, _, .str x => .str x
  | _, _, .lst h n a => .lst (e.seq h) n (DxAll.same e a)
  | _, _, .tup h a => .tup (sqT_same e h) (DxAll.same e a)
  | _, _, .dic h a => .dic (e _ _ h) (DxAll.same e a)
theorem DxAll.same {K : Fg} {H H' : Hp} (e : Same H H') : ∀ {vs : List V} {ds : List PyData}, DxAll K H vs ds → DxAll K H' vs ds
  | _, _, .nil => .nil
  | _, _, .cons h t => .cons (Dx.same e h) (DxAll.same e t)
end
theorem sz1000 {n : Nat} (h : n ≤ 1000) : n ≤ sizeLine := Nat.le_trans h (by decide)
end Tw
/-! Tw: the pen again, its list of cells named: so that a list that grows beside it is known to be another one. -/
namespace Tw
open PySem PySem.Spec PyProof.Rows L2 He
/-- the pen at p, its cells at l -/
def PenL (H : Hp) (p l : Addr) (c : Nat) : Prop := ∃ (ns : List Int) (i g : Int), H p = some (.lst [.ref l, .int i, .int g]) ∧ H l = some (.lst (ns.map V.int)) ∧ l ≠ p ∧ ns.length ≤ 63 ∧ 0 ≤ i ∧ i ≤ (c : Int) ∧ 0 ≤ g
theorem PenL.mono {H : Hp} {p l : Addr} {c c' : Nat} (h : PenL H p l c) (hc : c ≤ c') : PenL H p l c' := by
  obtain ⟨ns, i, g, h1, h2, h3, h4, h5, h6, h7⟩ := h
  exact ⟨ns, i, g, h1, h2, h3, h4, h5, by omega, h7⟩
theorem PenL.same {H H' : Hp} {p l : Addr} {c : Nat} (e : Same H H') (h : PenL H p l c) : PenL H' p l c := by
  obtain ⟨ns, i, g, h1, h2, h3⟩ := h
  exact ⟨ns, i, g, e _ _ h1, e _ _ h2, h3⟩
/-- another object than the pen and its cells changes -/
theorem PenL.upd {H : Hp} {p l q : Addr} {c : Nat} {o : HO} (h : PenL H p l c) (h1 : q ≠ p) (h2 : q ≠ l) : PenL (L2.upd H q o) p l c := by
  obtain ⟨ns, i, g, e1, e2, r⟩ := h
  exact ⟨ns, i, g, by rw [upd_ne h1.symm]; exact e1, by rw [upd_ne h2.symm]; exact e2, r⟩
/-- what is new is neither -/
theorem PenL.new {H : Hp} {p l q : Addr} {c : Nat} (h : PenL H p l c) (hq : H q = none) : q ≠ p ∧ q ≠ l := by
  obtain ⟨ns, i, g, e1, e2, r⟩ := h
  exact ⟨(ne_of_none e1 hq).symm, (ne_of_none e2 hq).symm⟩
def spDrawL : Sp := fun vs H Q _ => ∃ (p l : Addr) (m : Int) (c : Nat), vs = [.ref p, .int m] ∧ 0 < m ∧ m < 1073741824 ∧ PenL H p l c ∧ c ≤ 1000000 ∧
  ∀ (r : Int) (H' : Hp), 0 ≤ r → r < m → PenL H' p l (c + 1) → But p H H' → Q (.int r) H'
def spPenL (K : Fg) : Sp := fun vs H Q _ => ∃ (a : Addr) (ns : List Int), vs = [.ref a] ∧ SqL K H a (ns.map V.int) ∧ ns.length ≤ 63 ∧ ∀ (p l : Addr) (H' : Hp), H p = none → PenL H' p l 0 → Same H H' → Q (.ref p) H'
def spPickL (K : Fg) : Sp := fun vs H Q _ => ∃ (p l q : Addr) (xs : List V) (c : Nat), vs = [.ref p, .ref q] ∧ SqL K H q xs ∧ q ≠ p ∧ 0 < xs.length ∧ xs.length < 1000 ∧ PenL H p l c ∧ c ≤ 1000000 ∧
  ∀ (v : V) (H' : Hp), v ∈ xs → PenL H' p l (c + 1) → But p H H' → Q v H'
end Tw
/-! Tw: try: body, except x as n: suite, the caught error tracked behind the suite. -/
namespace Tw
open PySem PySem.Spec PyProof.Rows L2
section
variable {X : Cx} {pins : List (Addr × Obj)} {σ : L2.St} {H : Hp} {s : Shared}
/-- a pinned error of ours becomes a tracked one -/
theorem track {a C : Addr} {d : Option Addr} {oe : Obj} {vs : Array Value} (I : Inv X ((a, oe) :: pins) σ H s) (h0 : X.s_0.heap.get? a = none) (hne : ∀ p ∈ X.pn ++ pins, p.1 ≠ a) (hz : Zc (.ref C) d oe) (hd : oe.data = .fields vs) :
    Inv X pins σ (upd H a (exT a C d)) s := by
  obtain ⟨ha, na, nL, nF, nC⟩ := I.pin (a, oe) (List.mem_append_right _ List.mem_cons_self)
  have ne : ∀ {b : Addr} {u : HO}, H b = some u → b ≠ a := fun e => ne_of_none e na
  refine ⟨I.ok, I.os, I.bare, ⟨I.base.keep, I.base.slot, fun b o e n hx => ?_, I.base.there, fun b xs e => ?_, fun b o u e => ?_, fun b ps e => ?_⟩, I.loc, I.cell, ?_, fun x c e => ?_, fun p hp => ?_, fun b u e => ?_, I.len⟩
  · rw [upd_ne (fun z => by rw [z, h0] at e; cases e)]
    exact I.base.free b o e n hx
  · have q := I.base.tups b xs e
    rw [upd_ne (ne q)]
    exact q
  · have q := I.base.frzs b o u e
    rw [upd_ne (ne q)]
    exact q
  · obtain ⟨m, q⟩ := I.base.tbls b ps e
    exact ⟨m, by rw [upd_ne (ne q)]; exact q⟩
  · rw [upd_ne (Ne.symm nL)]
    exact I.free
  · obtain ⟨v, o, ho, hv⟩ := I.cell x c e
    rw [upd_ne (fun z => by
      have z' : c = a := z
      rw [z'] at ho
      have ha' : s.heap.get? a = some oe := ha
      rw [ha'] at ho
      cases ho
      exact nC v hv)]
    exact I.freeC x c e
  · obtain ⟨e1, e2, e3⟩ := I.pin p (by
      rcases List.mem_append.mp hp with z | z
      · exact List.mem_append_left _ z
      · exact List.mem_append_right _ (List.mem_cons_of_mem _ z))
    exact ⟨e1, by rw [upd_ne (hne p hp)]; exact e2, e3⟩
  · by_cases hb : b = a
    · subst hb
      rw [upd_same] at e
      cases e
      exact exT_ok ha hz hd
    · rw [upd_ne hb] at e
      exact (I.hok b u e).stay (fun _ _ _ q => q) (fun c q => by rw [upd_ne (ne q)]; exact q) fun c xs q => by rw [upd_ne (ne q)]; exact q
end
/-- what the clause wishes: its error stands tracked behind the suite -/
def wAsK (K : PySem.W.Frag) (c : Value) (i : Nat) (ts : Addr → Value → Option Addr → TS) (Wout : WX) (D : Ends) : WX := fun cls d σ H =>
  ∃ (C : Addr) (b : Bool), cls = .ref C ∧ PySem.W.exmOne K cls c = some b ∧ (b = true → ∀ a, H a = none → ts a cls d { nx := fun σ' H' => D.nx (σ'.set i none) (upd H' a (exT a C d)), rt := D.rt, bk := fun σ' H' => D.bk (σ'.set i none) H', ct := fun σ' H' => D.ct (σ'.set i none) H' } (σ.set i (some (.ref a))) H) ∧
    (b = false → Wout cls d σ H)
section
variable {X : Cx} {x n : Str} {c : Value} {i : Nat} {body suite : List Stmt} {b₀ : Stmt} {np pos pos' : Pos} {tb : WX → TS} {ts : Addr → Value → Option Addr → TS} {Wout : WX}
theorem ps_tryK (hex : X.ex = []) (hs : X.stack = X.env :: X.outer) (hf : X.env.frame = some X.env.locals) (hN : X.N.Nodup) (hi : X.N[i]? = some n) (hln : X.env.kindOf n = some .local) (hc : Names X x c) (tk : Takes X Wout)
    (hb : ∀ (W : WX) (pn : List (Addr × Obj)) (xe : Value → Shared → Prop), Takes (X.tr pn xe) W → PassesOwn (model X.prog X.w) X.A X.env xe → PSs (X.tr pn xe) body (tb W))
    (hsu : ∀ (a : Addr) (oe : Obj) (cls : Value) (d : Option Addr) (pn : List (Addr × Obj)), Zc cls d oe → (∃ vs, oe.data = .fields vs) → PSs (X.suite a ((a, oe) :: pn)) (b₀ :: suite) (ts a cls d)) :
    PS X (.Try body [.ExceptHandler (some (.Name x np)) (some n) (b₀ :: suite) pos'] [] [] pos) (fun D σ H => tb (wAsK X.K c i ts Wout D) D σ H) := by
  refine ⟨fun pins s σ H D I h => ?_⟩
  have ok := I.ok
  have hfr : X.A.frames = some (X.env :: X.outer) := by rw [ok.frames, hs]
  have hloc : Loc X.env.scope n := .inl hln
  refine wpAny_Try_except ?_
  refine wpAny_mono ((hb (wAsK X.K c i ts Wout D) (X.pn ++ pins) (fun e s₁ => wpAny (model X.prog X.w) X.A (noteFrame e X.env) (fun _ s₂ => wpAny (model X.prog X.w) X.A (setFlight e none) (fun _ s₃ =>
    wpAny (model X.prog X.w) X.A (handleBy e X.env [.ExceptHandler (some (.Name x np)) (some n) (b₀ :: suite) pos']) (SP X pins D) X.xe s₃) X.xe s₂) X.xe s₁) (fun u s' xx => ?_) PassesOwn.looking).run [] s σ H D (I.toTry _) h) (fun f s1 hsp => ?_) (fun e s1 he => he)
  · obtain ⟨a, B, sI, pins', σ', H', cls, d, rfl, J', nb, up, sky, na, os, ag, C, b, hcls, hb1, hyes, hno⟩ := xx
    have J : Inv X pins σ' H' sI := J'.ofTry ok
    have sky' : Sky B (X.env :: X.outer) a (Zc cls d) X.env.locals s'.heap := by rw [← hs]; exact sky
    show wpAny (model X.prog X.w) X.A (noteFrame (.ref a) X.env) _ _ _
    refine Sky.land Zc.steady hfr hf sky' fun h3 fl3 up3 => ?_
    have J3 : Inv X pins σ' H' { s' with heap := h3 } := J.landed nb fl3.1 (up.trans up3) os ag
    obtain ⟨oe3, vs3, he3, hz3, hd3⟩ := fl3.there
    have notFr : ∀ {h : Heap} {o : Obj} {vs : Array Value}, h.FunFrames B (X.env :: X.outer) → h.get? a = some o → o.data = .fields vs → a ∉ frs (X.env :: X.outer) := fun {h o vs} ff e dd hm => by
      obtain ⟨_, o', e', hnf⟩ := ff.mem hm
      rw [e] at e'
      cases e'
      exact hnf _ dd
    have nfr := notFr fl3.2.2.1 he3 hd3
    have nL : a ≠ X.env.locals := fun z => nfr (List.mem_filterMap.mpr ⟨X.env, List.mem_cons_self, by rw [hf, z]⟩)
    have nF : a ∉ X.fs := fun hm => by
      obtain ⟨e, he, q⟩ := List.mem_filterMap.mp hm
      exact nfr (List.mem_filterMap.mpr ⟨e, List.mem_cons_of_mem _ he, q⟩)
    -- the error is new to this def
    have nI : sI.heap.get? a = none := by
      cases e : sI.heap.get? a with
      | none => rfl
      | some o =>
        have z := nb a o e (by rw [hs]; exact nfr)
        have z2 : B.get? a = none := fl3.2.1
        rw [z2] at z
        cases z
    have n0 : X.s_0.heap.get? a = none := by
      cases e : X.s_0.heap.get? a with
      | none => rfl
      | some o =>
        obtain ⟨o', z⟩ := J.base.there a o e (by rw [hex]; exact fun z => nomatch z)
        rw [nI] at z
        cases z
    have npin : ∀ p ∈ X.pn ++ pins, p.1 ≠ a := fun p hp z => by
      obtain ⟨e, _⟩ := J.pin p hp
      rw [z, nI] at e
      cases e
    have S3 := J3.suite he3 hd3 na nL nF
    refine wpAny_handleBy_cons (codeAny_handlers_test ?_) (by intro q; cases q)
    have LT : PySem.W.Looks (model X.prog X.w) h3 (typeOf (.ref a)) cls := fun A Q E s k q => wpAny_typeOf_ref (k _ _ he3) (by rw [hz3.1]; exact q)
    have LM := PySem.W.exm_one (M := model X.prog X.w) (J3.kIn) LT hb1
    have test : ∀ {Q : Value → Shared → Prop} {E : Value → Shared → Prop}, Q c { s' with heap := h3 } → wpAny (model X.prog X.w) (X.A.mark (some (.ref a))) (eval (.Name x np) X.env) Q E { s' with heap := h3 } := fun {Q E} q => by
      obtain ⟨hg, hdbg, hm | ⟨hm, hv, hnn⟩⟩ := hc
      · exact ld_glob (X := X.suite a ((a, oe3) :: (X.pn ++ pins))) S3 hg hm q hdbg
      · exact ld_blt (X := X.suite a ((a, oe3) :: (X.pn ++ pins))) S3 hg hm hv q hnn hdbg
    refine test (LM.here ?_)
    cases b with
    | true =>
      refine codeAny_handlers_suite_as ?_
      refine HandSPX.lands_againZ fl3 fun h4 fl4 up4 => ?_
      have J4 : Inv X pins σ' H' { s' with heap := h4 } := J.landed nb fl4.1 ((up.trans up3).trans up4) os ag
      obtain ⟨oe4, vs4, he4, hz4, hd4⟩ := fl4.there
      have S4 := J4.suite he4 hd4 na nL nF
      refine store_ok (X := X.suite a ((a, oe4) :: (X.pn ++ pins))) (v := .ref a) S4 hN hi hloc rfl (fun s5 S5 => ?_) (.inr hln)
      refine wpAny_mono ((hsu a oe4 cls d (X.pn ++ pins) hz4 ⟨_, hd4⟩).run [] s5 _ H' _ S5 (hyes rfl a na)) (fun f s6 hsp => ?_) (fun _ _ z => False.elim z)
      have end_ : ∀ {σ6 : L2.St} {H6 : Hp} {Q : Shared → Prop}, Inv (X.suite a ((a, oe4) :: (X.pn ++ pins))) [] σ6 H6 s6 → (∀ s7, Inv X ((a, oe4) :: pins) (σ6.set i none) H6 s7 → Q s7) →
          wpAny (model X.prog X.w) X.A (do bindName X.env n .none; unbindBehindTheSuite X.env n pos') (fun _ s7 => Q s7) X.xe s6 := fun {σ6 H6 Q} S6 hq => by
        have J6 : Inv X ((a, oe4) :: pins) σ6 H6 s6 := (S6.unsuite ok).pins_of fun p hp => S6.pin p (List.mem_append_left _ (by
          rcases List.mem_cons.mp hp with z | z
          · exact List.mem_cons.mpr (.inl z)
          · exact List.mem_cons_of_mem _ (List.mem_append_right _ z)))
        exact gone_ok J6 hN hi hln hq
      have drop : ∀ {σ7 : L2.St} {H7 : Hp} {s7 : Shared}, Inv X ((a, oe4) :: pins) σ7 H7 s7 → Inv X pins σ7 H7 s7 := fun J7 => J7.pins_of fun p hp => J7.pin p (List.mem_append_right _ (List.mem_cons_of_mem _ hp))
      subst hcls
      cases f with
      | next =>
        obtain ⟨σ6, H6, S6, q6⟩ := hsp
        exact end_ S6 fun s7 J7 => ⟨_, _, track J7 n0 npin hz4 hd4, q6⟩
      | brk =>
        obtain ⟨σ6, H6, S6, q6⟩ := hsp
        exact end_ S6 fun s7 J7 => ⟨_, _, drop J7, q6⟩
      | cont =>
        obtain ⟨σ6, H6, S6, q6⟩ := hsp
        exact end_ S6 fun s7 J7 => ⟨_, _, drop J7, q6⟩
      | ret u =>
        obtain ⟨v6, σ6, H6, S6, r6, q6⟩ := hsp
        exact end_ S6 fun s7 J7 => ⟨_, _, _, drop J7, r6, q6⟩
    | false =>
      show wpAny _ X.A (handleBy (.ref a) X.env []) _ _ _
      refine wpAny_handleBy_nil ?_
      obtain ⟨k1, k2, k3, oe, vs, T, oT, ts', he, hz, hd, h1, hr⟩ := id fl3
      unfold PySem.passOn
      refine wpAny_bind (wpAny_field he hd h1 ?_)
      rw [if_neg (show ¬ ((Value.ref T == Value.none) = true) from by simp)]
      have fin : wpAny (model X.prog X.w) X.A (setFlight (.ref a) X.env.frame) (fun _ s4 => wpAny (model X.prog X.w) X.A (throw (.ref a) : Sem Flow) (SP X pins D) X.xe s4) X.xe { s' with heap := h3 } := by
        rw [hf]
        refine HandSPX.setFlight_upZ fl3 fun h4 hh4 up4 => wpAny_throw (tk _ _ ?_)
        exact ⟨a, B, sI, pins, σ', H', cls, d, rfl, J, nb, (up.trans up3).trans up4, .inr (.inr (by rw [hs]; exact hh4)), na, os, ag, hno rfl⟩
      first
        | exact wpAny_bind (wpAny_pure (wpAny_bind fin))
        | exact wpAny_bind fin
  · cases f with
    | next =>
      obtain ⟨σ', H', J', q⟩ := hsp
      exact wpAny_execs_nil ⟨σ', H', J'.ofTry ok, q⟩
    | brk =>
      obtain ⟨σ', H', J', q⟩ := hsp
      exact ⟨σ', H', J'.ofTry ok, q⟩
    | cont =>
      obtain ⟨σ', H', J', q⟩ := hsp
      exact ⟨σ', H', J'.ofTry ok, q⟩
    | ret u =>
      obtain ⟨v, σ', H', J', r, q⟩ := hsp
      exact ⟨v, σ', H', J'.ofTry ok, r, q⟩
end
end Tw
/-! Tw: instances of own classes: == and != by an own __eq__, str by an own __str__, made where __init__ may raise. -/
namespace Tw
open PySem PySem.Spec PyProof.Rows L2
/-- the type of anything that is known -/
def TyA (K : PySem.W.Frag) (H : Hp) (x : V) (t : Value) : Prop := TyX K H x t ∨ ∃ (a C : Addr) (d : Addr) (fs : List (Str × V)), x = .ref a ∧ t = .ref C ∧ IsX H a C (some d) ∧ IsXd H d fs ∧ XC K C ∧ XO K
section
variable {X : Cx} {CX : CXT} {pins : List (Addr × Obj)} {σ : L2.St} {H : Hp} {s : Shared} {k : Nat} {f C : Addr} {fd : FuncData} {ps : List Str} {sp : Sp} {E : XK}
theorem tyA_looks {x : V} {u t : Value} (I : Inv X pins σ H s) (r : RelV x u) (ty : TyA X.K H x t) (M : Model) : PySem.W.Looks M s.heap (typeOf u) t := by
  rcases ty with ty | ⟨a, C, d, fs, rfl, rfl, ia, idd, T, O⟩
  · obtain ⟨P, Z, p, _⟩ := kit_of I r ty
    exact Z.ty M s.heap I.kIn p
  · cases (show u = Value.ref a from r)
    obtain ⟨oe, vs, ho, hz, hdt⟩ := ia.get I.hok
    exact fun A Q E s k q => wpAny_typeOf_ref (k _ _ ho) (by rw [hz.1]; exact q)
theorem inst_at (I : Inv X pins σ H s) {a dx : Addr} {fs : List (Str × V)} (e : H a = some (.ins C dx fs)) : ∃ od ox, PySem.W.InstAt s.heap a ox C (some od) := by
  obtain ⟨mA, O, _⟩ := ins_get I.hok e
  obtain ⟨od, J, _⟩ := O.look
  exact ⟨od, _, J⟩
/-- a def run one deeper within a built-in -/
theorem run_in1 {Q : VK} {us : List Value} {vs : List V} (F : FnOk X.prog X.w X.K X.mg X.base CX k f fd ps sp) (hr : Room (k + 1) X.A) (hb : Binds X.K fd ps []) (hx : Passes CX X E) (I : Inv X pins σ H s) (r : Vals vs us) (h : sp vs H Q E) :
    wpAny (model X.prog X.w) X.A.in1 (call (.ref f) us) (EP X pins σ Q) X.xe s := by
  have hl : us.length = ps.length := r.length.symm.trans (F.len _ _ _ _ h)
  have b := hb s us I.kIn (by rw [List.append_nil]; exact hl)
  rw [List.append_nil] at b
  refine wpAny_call (codeAny_mono (F.run X.A.in1 X.stack s H ⟨us, []⟩ us vs Q E hr.in1 I.env0.in1 b r h) fun r s' hq => ?_)
  match r, hq with
  | .error e, hq => exact hx pins σ H s e s' I hq
  | .ok (.ret u), hq => exact I.after hq
theorem run_in2 {Q : VK} {us : List Value} {vs : List V} (F : FnOk X.prog X.w X.K X.mg X.base CX k f fd ps sp) (hr : Room (k + 2) X.A) (hb : Binds X.K fd ps []) (hx : Passes CX X E) (I : Inv X pins σ H s) (r : Vals vs us) (h : sp vs H Q E) :
    wpAny (model X.prog X.w) X.A.in1.in1 (call (.ref f) us) (EP X pins σ Q) X.xe s := by
  have hl : us.length = ps.length := r.length.symm.trans (F.len _ _ _ _ h)
  have b := hb s us I.kIn (by rw [List.append_nil]; exact hl)
  rw [List.append_nil] at b
  have hr1 : Room (k + 1) X.A.in1 := Room.in1 hr
  refine wpAny_call (codeAny_mono (F.run X.A.in1.in1 X.stack s H ⟨us, []⟩ us vs Q E hr1.in1 I.env0.in1.in1 b r h) fun r s' hq => ?_)
  match r, hq with
  | .error e, hq => exact hx pins σ H s e s' I hq
  | .ok (.ret u), hq => exact I.after hq
/-- x == y by x's own __eq__ -/
def rEqOwn (K : PySem.W.Frag) (C : Addr) (sp : Sp) (E : XK) : R2 := fun x y H Q => ∃ (a dx : Addr) (fs : List (Str × V)) (t : Value), x = .ref a ∧ H a = some (.ins C dx fs) ∧ TyA K H y t ∧ PySem.W.notFirst K C t = true ∧ sp [x, y] H Q E
theorem op_eqOwn (hs : PySem.W.findIn X.K (.ref C) "__eq__" = some (some (.ref f))) (hf : PySem.W.isFn X.K (.ref f) = true) (F : FnOk X.prog X.w X.K X.mg X.base CX k f fd ps sp) (hr : Room k X.A) (hb : Binds X.K fd ps []) (hx : Passes CX X E) : OpR X (compareOp .Eq) (rEqOwn X.K C sp E) := by
  intro pins s σ H x y v u Q I rx ry h
  obtain ⟨a, dx, fs, t, rfl, ea, ty, hn, q⟩ := h
  cases (show v = Value.ref a from rx)
  obtain ⟨od, ox, J⟩ := inst_at I ea
  obtain ⟨m, hF⟩ := I.fr
  show wpAny _ _ (richCompare .Eq _ _) _ _ _
  refine PySem.W.cmp_K (op := .Eq) (tb := t) hr.units0 hF I.ok.mod.kin J (tyA_looks I ry ty _) hn hs hf ?_
  refine wpAny_mono (run_fn (dvs := []) (ds := []) (us := [.ref a, u]) (vs := [.ref a, y]) F hr hb .nil hx I (.cons rfl (.cons ry .nil)) q) (fun w s' z => ?_) fun _ _ x => x
  obtain ⟨z', H', I', rz, qz⟩ := z
  exact SlX.cmpback rz ⟨z', H', I', rz, qz⟩
/-- x != y: object.__ne__ asks x's own __eq__ -/
def rNeOwn (K : PySem.W.Frag) (C : Addr) (sp : Sp) (E : XK) : R2 := fun x y H Q => ∃ (a dx : Addr) (fs : List (Str × V)) (t : Value), x = .ref a ∧ H a = some (.ins C dx fs) ∧ TyA K H y t ∧ PySem.W.notFirst K C t = true ∧ sp [x, y] H (fun z H' => ∃ b, z = .bl b ∧ Q (.bl (!b)) H') E
theorem ifBound_objNe {K : PySem.W.Frag} {M : Model} {A : Around} {E : Value → Shared → Prop} {s : Shared} {x : Addr} {ox : Obj} {od : Option Obj} {args : List Value} {Q : Option Value → Shared → Prop} (Y : K.In s.heap) (I : PySem.W.InstAt s.heap x ox C od) (hs : PySem.W.findIn K (.ref C) "__ne__" = some (some (.builtin "object.__ne__")))
    (h : wpAny M A (call (.builtin "object.__ne__") (.ref x :: args)) (fun v => Q (some v)) E s) : wpAny M A (callSpecialIfBound? (.ref x) "__ne__" args) Q E s := by
  simp only [callSpecialIfBound?, bindSpecialIfBound?]
  refine wpAny_holding (wpAny_bind (wpAny_bind (wpAny_bind (I.type.here ((PySem.W.looks_findIn Y hs).here ?_)))))
  refine wpAny_bind (wpAny_askSetting (wpAny_ite ?_))
  have fin : wpAny M A (call (.builtin "object.__ne__") ([.ref x] ++ args) >>= fun v => pure (some v)) Q E s := wpAny_bind (wpAny_mono h (fun v s' h' => wpAny_pure h') fun _ _ h' => h')
  split
  · exact wpAny_bind (wpAny_of_eq (F.cmp_object.ne.bind _) (wpAny_pure (by exact fin)))
  · exact wpAny_tryCatch (wpAny_bind (wpAny_of_eq (F.cmp_object.ne.bind _) (wpAny_pure (by exact fin))))
theorem ne_entry {K : PySem.W.Frag} {prog : Program} {w : World} {A : Around} {E : Value → Shared → Prop} {s : Shared} {x : Addr} {ox : Obj} {od : Option Obj} {b : Value} {Q : Fin → Shared → Prop} (hu : A.units < cLine) (Y : K.In s.heap) (I : PySem.W.InstAt s.heap x ox C od)
    (hs : PySem.W.findIn K (.ref C) "__eq__" = some (some (.ref f))) (hf : PySem.W.isFn K (.ref f) = true)
    (h : wpAny (model prog w) A (call (.ref f) [.ref x, b]) (fun v s' => ∃ c, v = .bool c ∧ Q (.done (.ret (.bool (!c)))) s') E s) : wpAny (model prog w) A (Builtin.«object.__ne__» ⟨[.ref x, b], []⟩) Q E s := by
  unfold Builtin.«object.__ne__»
  repeat (first
    | with_reducible refine wpAny_cRoomFor hu ?_
    | (refine wpAny_bind (m := callSpecialIfBound? (.ref x) (Str.ofString "__eq__") [b])
        (PySem.W.ifBound_K Y I hs hf (wpAny_mono h (fun r s' hr => by
          obtain ⟨b, rfl, hq⟩ := hr
          repeat (first | exact hq | exact wpAny_pure hq | exact wpAny_truthy_bool hq | (refine wpAny_bind (m := truthy (.bool _)) (wpAny_truthy_bool ?_)) | wp_step)) fun _ _ e => e)))
    | wp_step)
theorem ne_own {x : Addr} {ox : Obj} {od : Option Obj} {b tb : Value} {K : PySem.W.Frag} {prog : Program} {w : World} {A : Around} {E : Value → Shared → Prop} {s : Shared} {Q : Value → Shared → Prop} (hu : A.units + 1 < cLine) (Y : K.In s.heap) (I : PySem.W.InstAt s.heap x ox C od) (hb : PySem.W.Looks (model prog w) s.heap (typeOf b) tb) (hn : PySem.W.notFirst K C tb = true)
    (hne : PySem.W.findIn K (.ref C) "__ne__" = some (some (.builtin "object.__ne__"))) (hs : PySem.W.findIn K (.ref C) "__eq__" = some (some (.ref f))) (hf : PySem.W.isFn K (.ref f) = true) (hm : PySem.W.mroIn K C (.type "object") = some true)
    (h : wpAny (model prog w) A.in1 (call (.ref f) [.ref x, b]) (fun v s' => ∃ c, v = .bool c ∧ Q (.bool (!c)) s') E s) : wpAny (model prog w) A (richCompare .NotEq (.ref x) b) Q E s := by
  have one : wpAny (model prog w) A (tryCompare (.ref x) (cmpInfo .NotEq).2.1 b) (fun r s' => ∃ v, r = some v ∧ Q v s') E s := by
    unfold tryCompare
    refine wpAny_bind (ifBound_objNe Y I hne (wpAny_call (codeAny_call_builtin F.cmp_object.ne.plain F.cmpEntry_ne (PySem.W.check_slot F.cmpKind_ne F.cmpSplit_ne (I.type.andThen (PySem.W.looks_mroIn Y hm)) (F.cmpArgs_ne _ _)
      (ne_entry (A := A.in1) hu Y I hs hf (wpAny_mono h (fun v s' hv => ?_) fun _ _ e => e))))))
    obtain ⟨c, rfl, hq⟩ := hv
    first | exact ⟨c, rfl, wpAny_pure ⟨_, rfl, hq⟩⟩ | exact ⟨c, rfl, wpAny_pure (wpAny_pure ⟨_, rfl, hq⟩)⟩ | exact ⟨c, rfl, ⟨_, rfl, hq⟩⟩
  unfold richCompare
  simp only [oneThing_ref]
  refine wpAny_holding (wpAny_bind (wpAny_cRoomFor (Nat.lt_of_succ_lt hu) ?_))
  refine wpAny_bind (I.type.here (wpAny_bind (hb.here ?_)))
  split
  · rename_i q
    have e : PySem.W.subIn K tb (.ref C) = some false := by
      rcases Bool.or_eq_true_iff.mp hn with e | e
      · rw [beq_iff_eq.mp e] at q; simp at q
      · exact beq_iff_eq.mp e
    refine wpAny_bind ((PySem.W.looks_subIn Y e).here ?_)
    simp only [Bool.false_eq_true, if_false]
    refine wpAny_bind (wpAny_mono one (fun r s' z => ?_) fun _ _ e => e)
    obtain ⟨v, rfl, hq⟩ := z
    exact wpAny_pure hq
  · refine wpAny_bind (wpAny_pure ?_)
    simp only [Bool.false_eq_true, if_false]
    refine wpAny_bind (wpAny_mono one (fun r s' z => ?_) fun _ _ e => e)
    obtain ⟨v, rfl, hq⟩ := z
    exact wpAny_pure hq
theorem op_neOwn (hne : PySem.W.findIn X.K (.ref C) "__ne__" = some (some (.builtin "object.__ne__"))) (hs : PySem.W.findIn X.K (.ref C) "__eq__" = some (some (.ref f))) (hf : PySem.W.isFn X.K (.ref f) = true) (hm : PySem.W.mroIn X.K C (.type "object") = some true)
    (F : FnOk X.prog X.w X.K X.mg X.base CX k f fd ps sp) (hr : Room (k + 1) X.A) (hb : Binds X.K fd ps []) (hx : Passes CX X E) : OpR X (compareOp .NotEq) (rNeOwn X.K C sp E) := by
  intro pins s σ H x y v u Q I rx ry h
  obtain ⟨a, dx, fs, t, rfl, ea, ty, hn, q⟩ := h
  cases (show v = Value.ref a from rx)
  obtain ⟨od, ox, J⟩ := inst_at I ea
  show wpAny _ _ (richCompare .NotEq _ _) _ _ _
  refine ne_own (tb := t) (Nat.lt_of_le_of_lt (Nat.le_refl _) hr.in1.units0) I.kIn J (tyA_looks I ry ty _) hn hne hs hf hm ?_
  refine wpAny_mono (run_in1 F hr hb hx I (.cons rx (.cons ry .nil)) q) (fun w s' z => ?_) fun _ _ x => x
  obtain ⟨z', H', I', rz, b, rfl, qz⟩ := z
  exact ⟨b, rz, .bl (!b), H', I', rfl, qz⟩
/-- str(x) by x's own __str__ -/
def rStrOwn (C : Addr) (sp : Sp) (E : XK) : List V → Hp → VK → Prop := fun xs H Q => ∃ (a dx : Addr) (fs : List (Str × V)), xs = [.ref a] ∧ H a = some (.ins C dx fs) ∧ sp [.ref a] H (fun z H' => ∃ c, z = .str c ∧ Q z H') E
theorem call_strOwn (hs : PySem.W.findIn X.K (.ref C) "__str__" = some (some (.ref f))) (hf : PySem.W.isFn X.K (.ref f) = true) (F : FnOk X.prog X.w X.K X.mg X.base CX k f fd ps sp) (hr : Room (k + 2) X.A) (hb : Binds X.K fd ps []) (hx : Passes CX X E) : CallR X (.type "str") (rStrOwn C sp E) := by
  intro pins s σ H xs us Q I r h
  obtain ⟨a, dx, fs, rfl, ea, q⟩ := h
  obtain ⟨u1, rfl, r1⟩ := vals1 r
  cases (show u1 = Value.ref a from r1)
  obtain ⟨od, ox, J⟩ := inst_at I ea
  have hr1 : Room (k + 1) X.A.in1 := Room.in1 hr
  refine PySem.W.kso_call hr1.in1.units0 I.kIn J hs hf ?_
  refine wpAny_mono (run_in2 F hr hb hx I (.cons r1 .nil) q) (fun w s' z => ?_) fun _ _ x => x
  obtain ⟨z', H', I', rz, c, ez, qz⟩ := z
  subst ez
  obtain ⟨t, rfl⟩ := rz
  exact ⟨.str c, H', I', ⟨_, rfl⟩, qz⟩
end
end Tw
/-! Tw: a text times a number; an object made where its __init__ may raise into a try. -/
namespace Tw
open PySem PySem.Spec PyProof.Rows L2
section
variable {X : Cx} {CX : CXT} {k : Nat} {f C : Addr} {fd : FuncData} {ps : List Str} {sp : Sp} {E : L2.St → XK} {x : Str} {p pos : Pos} {e : Expr} {es : List Expr} {t : TA}
theorem op_mul_str : OpR X (binaryOp .Mult) (fun x y H Q => ∃ (z : Str) (n : Int), x = .str z ∧ y = .int n ∧ MulOk z n ∧ Q (.str (Txt.mul z n)) H) := by
  intro pins s σ H x y v u Q I rx ry h
  obtain ⟨z, n, rfl, rfl, ok, q⟩ := h
  obtain ⟨t, rfl⟩ := rx
  obtain ⟨t', rfl⟩ := ry
  exact SB.mul ok fun t' tk => ⟨.str (Txt.mul z n), H, I.tok _, ⟨_, rfl⟩, q⟩
/-- C(..) where C.__init__ may raise -/
def tMakeS (C : Addr) (sp : Sp) (E : L2.St → XK) (t : TA) : TE := fun σ H Q => t σ H fun vs H1 => ∀ x dx, H1 x = none → H1 dx = none → dx ≠ x →
  sp (.ref x :: vs) (upd (upd H1 dx (.own x)) x (.ins C dx [])) (fun v H2 => v = .non ∧ Q (.ref x) H2) (E σ)
theorem run_makeS {pins : List (Addr × Obj)} {σ : L2.St} {H : Hp} {s : Shared} {Q : VK} {us : List Value} {vs : List V} (M : Mk X.K C f) (F : FnOk X.prog X.w X.K X.mg X.base CX k f fd ps sp) (hr : Room (k + 1) X.A) (hb : Binds X.K fd ps [])
    (hx : PassesAt CX X σ (E σ)) (I : Inv X pins σ H s) (r : Vals vs us)
    (h : ∀ x dx, H x = none → H dx = none → dx ≠ x → sp (.ref x :: vs) (upd (upd H dx (.own x)) x (.ins C dx [])) (fun v H2 => v = .non ∧ Q (.ref x) H2) (E σ)) :
    wpAny (model X.prog X.w) X.A (call (.ref C) us) (EP X pins σ Q) X.xe s := by
  have hq := h (s.heap.objs.size + 1) s.heap.objs.size (I.hok.fresh (Nat.le_succ _)) (I.hok.fresh (Nat.le_refl _)) (Nat.ne_of_lt (Nat.lt_succ_self _))
  have I2 := Inv.made (C := C) I
  have r2 : Vals (V.ref (s.heap.objs.size + 1) :: vs) (Value.ref (s.heap.objs.size + 1) :: us) := .cons rfl r
  have hl : (Value.ref (s.heap.objs.size + 1) :: us).length = ps.length := by
    have e := r2.length
    rw [F.len _ _ _ _ hq] at e
    exact e.symm
  have b := hb _ (Value.ref (s.heap.objs.size + 1) :: us) I2.kIn (by rw [List.append_nil]; exact hl)
  rw [List.append_nil] at b
  refine wpAny_call (make_map (f := f) I.kIn M.makes M.init (beq_iff_eq.mp M.fn) (codeAny_mono (F.run _ X.stack _ _ ⟨Value.ref (s.heap.objs.size + 1) :: us, []⟩ (Value.ref (s.heap.objs.size + 1) :: us) _ _ (E σ) (hr.make C us [])
    (I2.env0.make C us []) b r2 hq) fun r s' hq' => ?_))
  cases r with
  | error e => exact hx pins _ _ e s' I2 hq'
  | ok fl =>
    cases fl with
    | ret u =>
      obtain ⟨v, H', I3, rv, ev, q3⟩ := I2.after hq'
      subst ev
      exact ⟨rv, ⟨V.ref (s.heap.objs.size + 1), H', I3, rfl, q3⟩⟩
    | next => exact False.elim hq'
    | brk => exact False.elim hq'
    | cont => exact False.elim hq'
theorem pe_makeS (M : Mk X.K C f) (F : FnOk X.prog X.w X.K X.mg X.base CX k f fd ps sp) (hr : Room (k + 1) X.A) (hg : Gl X x) (hm : X.mg x = some (.ref C)) (hb : Binds X.K fd ps []) (hx : ∀ σ, PassesAt CX X σ (E σ))
    (ha : PA X (e :: es) t) (hdb : (x == ("__debug__" : Str)) = false := by decide) (he : starEach (e :: es) X.env = (false, eval e X.env) :: starEach es X.env := by rfl) (hpl : (backTo pos (starEach es X.env)).any (·.1) = false := by rfl) :
    PE X (.Call (.Name x p) (e :: es) [] pos) (tMakeS C sp E t) := by
  refine ⟨fun pins s σ H Q I h => ?_⟩
  refine wpAny_Call_Name_kw (ld_glob I hg hm ?_ hdb)
  refine PySem.W.callWith_K (h₀ := X.base) I.ok.mod.kin M.kp (thn (ha.run pos pins s σ H _ I h) fun us s1 ⟨vs, H1, I1, r, q⟩ => ⟨I1.kIn, ?_⟩) he hpl
  exact run_makeS M F hr hb (hx σ) I1 r q
end
/-- a comprehension over a text, sign by sign -/
theorem lcStr {z : Str} {g : TG} {tt : TT} {te : TE} {ws : List Nat} {ρ : L2.St} {G : Hp} {D : Addr} {R : Hp → Prop} (P : Nat → Hp → Prop) (first : P 0 (upd G D (.lst [])))
    (step : ∀ i c H, z.cps[i]? = some c → P i H → g (.str ⟨#[c]⟩) (wipe ρ ws) H fun σ2 H2 => wipe σ2 ws = wipe ρ ws ∧ tt σ2 H2 fun b H3 => if b = true then te σ2 H3 fun y H4 => ∃ acc, H4 D = some (.lst acc) ∧ acc.length < sizeLine ∧ P (i + 1) (upd H4 D (.lst (acc ++ [y]))) else P (i + 1) H3)
    (last : ∀ H, P z.cps.size H → R H) :
    ∃ W : Nat → Nat → Hp → Prop, (∃ m, W 0 m (upd G D (.lst []))) ∧ ∀ i m H, W i m H → ((Its z).stop i H ∧ R H) ∨ ((Its z).go i H ∧ ∃ Nx : Hp → Prop, (∀ H', Nx H' → ∃ m', m' < m ∧ W (i + 1) m' H') ∧ ∀ x H', (Its z).yld i H x H' →
      g x (wipe ρ ws) H' fun σ2 H2 => wipe σ2 ws = wipe ρ ws ∧ tt σ2 H2 fun b H3 => if b = true then te σ2 H3 fun y H4 => ∃ acc, H4 D = some (.lst acc) ∧ acc.length < sizeLine ∧ Nx (upd H4 D (.lst (acc ++ [y]))) else Nx H3) := by
  refine ⟨fun i m H => m = z.cps.size - i ∧ i ≤ z.cps.size ∧ P i H, ⟨_, rfl, Nat.zero_le _, first⟩, ?_⟩
  rintro i m H ⟨rfl, hi, p⟩
  rcases Nat.lt_or_ge i z.cps.size with lt | ge
  · refine .inr ⟨lt, P (i + 1), fun H' p' => ⟨_, Nat.sub_succ_lt_self _ _ lt, rfl, lt, p'⟩, fun x H' ⟨e, c, ec, ex⟩ => ?_⟩
    subst e ex
    exact step i c _ ec p
  · exact .inl ⟨ge, last H (Nat.le_antisymm hi ge ▸ p)⟩
/-- values whose class is a built-in one -/
inductive Bv (H : Hp) : V → String → Prop where
  | non : Bv H .non "NoneType"
  | bl (b : Bool) : Bv H (.bl b) "bool"
  | int (i : Int) : Bv H (.int i) "int"
  | str (z : Str) : Bv H (.str z) "str"
  | lst {a : Addr} {xs : List V} (e : H a = some (.lst xs)) : Bv H (.ref a) "list"
  | tup {a : Addr} {xs : List V} (e : H a = some (.tup xs)) : Bv H (.ref a) "tuple"
  | dK {a : Addr} {kvs : List (Key × V)} (e : H a = some (.dK kvs)) : Bv H (.ref a) "dict"
theorem Bv.ty {K : PySem.W.Frag} {H : Hp} {x : V} {T : String} (h : Bv H x T) : TyX K H x (.type T) := by
  cases h with
  | non => exact .base .non
  | bl b => exact .base (.bl b)
  | int i => exact .base (.int i)
  | str z => exact .base (.str z)
  | lst e => exact .base (.lst e)
  | tup e => exact .base (.tup e)
  | dK e => exact .base (.dK e)
theorem Bv.same {H H' : Hp} {x : V} {T : String} (s : Same H H') (h : Bv H x T) : Bv H' x T := by
  cases h with
  | non => exact .non
  | bl b => exact .bl b
  | int i => exact .int i
  | str z => exact .str z
  | lst e => exact .lst (s _ _ e)
  | tup e => exact .tup (s _ _ e)
  | dK e => exact .dK (s _ _ e)
def isI : V → Bool
  | .int _ => true
  | _ => false
def isB : V → Bool
  | .bl _ => true
  | _ => false
def isS : V → Bool
  | .str _ => true
  | _ => false
/-- isinstance against a built-in class, by the value -/
theorem Bv.kits {K : PySem.W.Frag} {H : Hp} {x : V} {T : String} (h : Bv H x T) : PySem.W.kitOne K (.type T) (.type "str") = some (isS x) ∧ PySem.W.kitOne K (.type T) (.type "bool") = some (isB x) ∧ PySem.W.kitOne K (.type T) (.type "int") = some (isI x || isB x) := by
  cases h with
  | non => exact ⟨kit_ty (r := false) (by decide +kernel), kit_ty (r := false) (by decide +kernel), kit_ty (r := false) (by decide +kernel)⟩
  | bl b => exact ⟨kit_ty (r := false) (by decide +kernel), kit_ty (r := true) (by decide +kernel), kit_ty (r := true) (by decide +kernel)⟩
  | int i => exact ⟨kit_ty (r := false) (by decide +kernel), kit_ty (r := false) (by decide +kernel), kit_ty (r := true) (by decide +kernel)⟩
  | str z => exact ⟨kit_ty (r := true) (by decide +kernel), kit_ty (r := false) (by decide +kernel), kit_ty (r := false) (by decide +kernel)⟩
  | lst e => exact ⟨kit_ty (r := false) (by decide +kernel), kit_ty (r := false) (by decide +kernel), kit_ty (r := false) (by decide +kernel)⟩
  | tup e => exact ⟨kit_ty (r := false) (by decide +kernel), kit_ty (r := false) (by decide +kernel), kit_ty (r := false) (by decide +kernel)⟩
  | dK e => exact ⟨kit_ty (r := false) (by decide +kernel), kit_ty (r := false) (by decide +kernel), kit_ty (r := false) (by decide +kernel)⟩
end Tw
/-! Tw: a method called by keywords alone. -/
namespace Tw
open PySem PySem.Spec PyProof.Rows L2
section
variable {K : PySem.W.Frag} {x qual : Str} {params : Arguments} {body : List Stmt} {scope : Scope} {f : Addr} {fd : FuncData} {ps : List Str}
theorem kbNone (F : FunD K x qual params body scope [] [] f fd) (n : Nat) (ks : List Str)
    (h : ∀ (kV doc pm : Value) (an : Option Addr) (cdv ct : Value) (us ws : List Value), us.length = n → ws.length = ks.length → bindArgs (PySem.W.fnOf x qual params body scope .none kV doc pm an cdv ct) ⟨us, ks.zip ws⟩ = pure (ps.zip (us ++ ws))) :
    KBn K fd ps n ks (fun us ws => us ++ ws) (fun vs zs => vs ++ zs) := by
  obtain ⟨oc, od, dV, kV, doc, pm, an, cdv, ct, osl, rfl, lk, hcd, hD, hK⟩ := F.ex
  rcases hD with ⟨_, rfl⟩ | ⟨e, _⟩
  · exact ⟨fun s us ws X l1 l2 => .of_eq (h kV doc pm an cdv ct us ws l1 l2), fun r1 r2 => r1.append r2⟩
  · exact absurd rfl e
end
/-- o.m(k = v, ..) -/
def tMethN (C : Addr) (m : Str) (n : Nat) (sp : Sp) (gV : List V → List V → List V) (E : XK) (ta : TE) (tk : TA) : TE := fun σ H Q => ta σ H fun x H1 => ∃ (a dx : Addr) (fs : List (Str × V)), x = .ref a ∧ H1 a = some (.ins C dx fs) ∧ fs.lookup m = none ∧
  tk σ H1 fun zs H2 => zs.length = n ∧ sp (gV [.ref a] zs) H2 Q E
section
variable {X : Cx} {CX : CXT} {k : Nat} {f C : Addr} {fd : FuncData} {ps ks : List Str} {sp : Sp} {E : XK} {m : Str} {pos apos : Pos} {o : Expr} {kws : List Keyword} {ta : TE} {tk : TA} {g : List Value → List Value → List Value} {gV : List V → List V → List V}
theorem pe_methN {pl : Sem Bool} (he : PE X o ta) (c : Cls X.K C) (hm : Meth X.K C m f) (F : FnOk X.prog X.w X.K X.mg X.base CX k f fd ps sp) (hr : Room k X.A) (hb : KBn X.K fd ps 1 ks g gV) (hx : Passes CX X E) (hkw : PK X kws tk)
    (hall : (backToKw pos (keywordEach kws X.env)).all (·.1.isSome) = true := by rfl) (hks : (backToKw pos (keywordEach kws X.env)).filterMap (·.1) = ks := by rfl)
    (hpl : ((backTo pos (starEach [] X.env)).any (·.1) || (backToKw pos (keywordEach kws X.env)).any (·.1.isNone)) = false := by rfl)
    (ht : eval (.Call (.Attribute o m apos) [] kws pos) X.env = (do
      let v ← eval o X.env
      standAt apos.atName
      let (h, front) ← holding [v] (getMethod v m pl)
      callWith pos h front (backTo pos (starEach [] X.env)) (backToKw pos (keywordEach kws X.env))) := by rfl) :
    PE X (.Call (.Attribute o m apos) [] kws pos) (tMethN C m ks.length sp gV E ta tk) := by
  refine ⟨fun pins s σ H Q I h => ?_⟩
  refine PySem.W.methodCall_KW (pl := pl) (thn (he.run pins s σ H _ I h) fun u s1 ⟨x, H1, I1, rx, a, dx, fs, ex, ea, l, q⟩ => ?_) ht
  subst ex
  cases (show u = Value.ref a from rx)
  refine getmeth_ok I1 ea c hm l ?_
  refine PySem.W.callWith_KW0 (h₀ := X.base) (first := [.ref a]) I1.ok.mod.kin hm.kp hall (thn (hkw.run pos pins s1 σ H1 _ I1 q) fun ws s2 ⟨zs, H2, I2, rz, l2, q2⟩ => ⟨I2.kIn, ?_⟩) hpl
  rw [hks]
  exact run_fnN (us := [.ref a]) (vs := [.ref a]) F hr hb hx I2 (.cons rx .nil) rz rfl l2 q2
end
/-- == by an own __eq__, where the context is a comprehension's: what it knows is named -/
theorem eqOwnK {X : Cx} {CX : CXT} {k : Nat} {f C : Addr} {fd : FuncData} {ps : List Str} {sp : Sp} {E : XK} (P : Program) (w : World) (K : PySem.W.Frag) (mg : Str → Option Value) (base : Heap) (hs : PySem.W.findIn K (.ref C) "__eq__" = some (some (.ref f))) (hf : PySem.W.isFn K (.ref f) = true)
    (F : FnOk P w K mg base CX k f fd ps sp) (hr : Room k X.A) (hb : Binds K fd ps []) (hx : Passes CX X E) (e1 : X.prog = P := by rfl) (e2 : X.w = w := by rfl) (e3 : X.K = K := by rfl) (e4 : X.mg = mg := by rfl) (e5 : X.base = base := by rfl) : OpR X (compareOp .Eq) (rEqOwn K C sp E) := by
  subst e1 e2 e3 e4 e5
  exact op_eqOwn hs hf F hr hb hx
/-! lists of bools -/
theorem dpBools {K : PySem.W.Frag} {H : Hp} : ∀ bs : List Bool, DpAll K H (bs.map V.bl) (bs.map PyData.bool)
  | [] => .nil
  | b :: bs => .cons (.bl b) (dpBools bs)
theorem layBools : ∀ bs : List Bool, PyData.canLayAll0 (bs.map PyData.bool) = true ∧ PyData.depthAll (bs.map PyData.bool) = 0
  | [] => ⟨rfl, rfl⟩
  | b :: bs => by
    obtain ⟨h1, h2⟩ := layBools bs
    constructor
    · simp only [List.map_cons, PyData.canLayAll0, PyData.canLay0, h1, Bool.and_self]
    · simp only [List.map_cons, PyData.depthAll, PyData.depth, h2, Nat.max_self]
theorem shapedBools (bs : List Bool) : SeqAt.shaped (.list (bs.map PyData.bool)) = true := by
  obtain ⟨h1, h2⟩ := layBools bs
  simp [SeqAt.shaped, PyData.canLay0, PyData.depth, h1, h2]
theorem eqvBools (bs : List Bool) : PyData.eqv (.list (bs.map PyData.bool)) (.list (bs.map PyData.bool)) = true :=
  SeqAt.eqv_refl _ (by simpa [PyData.canLay0] using (layBools bs).1)
theorem ifSame {d : PyData} {A B : Prop} (h : PyData.eqv d d = true) (b : B) : if (!PyData.eqv d d) = true then A else B := by
  rw [h]
  exact iteF b
theorem mildBools : ∀ bs : List Bool, mildAll (bs.map PyData.bool) = true ∧ capAll (bs.map PyData.bool) ≤ 100 * bs.length
  | [] => ⟨rfl, Nat.le_refl _⟩
  | b :: bs => by
    obtain ⟨h1, h2⟩ := mildBools bs
    constructor
    · simp only [List.map_cons, mildAll, mild, h1, Bool.and_self]
    · simp only [List.map_cons, capAll, List.length_cons]
      have : cap (.bool b) ≤ 90 := by cases b <;> decide
      omega
end Tw
/-! Tw: enumerate over a list, a tuple, an own object that gives a tuple's iterator. -/
namespace Tw
open PySem PySem.Spec PyProof.Rows L2
/-- pairs (number, item), the items as G tells them -/
def IteG (G : Hp → List V → Prop) : It := ⟨fun i H => ∃ (xs : List V) (x : V), G H xs ∧ xs[i]? = some x,
  fun i H v H' => ∃ (T : Addr) (x : V), v = .ref T ∧ H T = none ∧ H' = upd H T (.tup [.int (i : Nat), x]) ∧ ∀ xs, G H xs → xs[i]? = some x, fun i H => ∃ xs : List V, G H xs ∧ i = xs.length⟩
theorem turnL {P : Program} {w : World} {K : PySem.W.Frag} {elts : List Expr} {kk : Nat} {tpos : Pos} (a e it : Addr) :
    Turn P w K (.Tuple elts kk tpos) (IteG fun H xs => SqL K H a xs) [e, it] e (fun i h => (∃ old, IsEnum h e it ((i : Nat) : Int) old) ∧ h.IsListIter it a i ∧ e ≠ it) :=
  let T := turn_enum (P := P) (w := w) (K := K) (elts := elts) (kk := kk) (tpos := tpos) a e it
  ⟨T.mem, T.obj, T.keep, T.item, fun X h1 h2 h3 h4 i pins s σ H E I hf st ⟨xs, g, hx⟩ => T.done X h1 h2 h3 h4 i pins s σ H E I hf st ⟨xs, g, Nat.le_of_eq hx.symm⟩, T.self⟩
theorem turnT {P : Program} {w : World} {K : PySem.W.Frag} {elts : List Expr} {kk : Nat} {tpos : Pos} (a e it : Addr) :
    Turn P w K (.Tuple elts kk tpos) (IteG fun H xs => SqT K H a xs) [e, it] e (fun i h => (∃ old, IsEnum h e it ((i : Nat) : Int) old) ∧ h.IsTupleIter it a i ∧ e ≠ it) where
  mem := List.mem_cons_self
  obj := fun i h ⟨⟨old, he⟩, ⟨o, ho, hc, hd⟩, _⟩ b hb => by
    rcases List.mem_cons.mp hb with z | z
    · exact z ▸ ⟨_, he, fun v q => nomatch q⟩
    · rw [List.mem_singleton.mp z]
      exact ⟨o, ho, fun v q => by
        rw [hd] at q
        cases q⟩
  keep := fun i h h' ⟨⟨old, he⟩, hi, hne⟩ k => ⟨⟨old, k e List.mem_cons_self _ he⟩, hi.at fun o q => k it (List.mem_cons_of_mem _ List.mem_cons_self) o q, hne⟩
  item := by
    intro X e1 e2 e3 hc i pins s σ H E I hf ⟨⟨old, he⟩, hit, hne⟩ ⟨xs, x, hq, hx⟩
    subst e1 e2 e3
    obtain ⟨its, rv, p, hz⟩ := I.tuple hq
    obtain ⟨u, hu, ru⟩ := rv.get hx
    have hel : e < s.heap.objs.size := Heap.lt_size he
    have hil : it < s.heap.objs.size := by
      obtain ⟨_, q, _⟩ := hit
      exact Heap.lt_size q
    have hta : a ≠ it := fun z => by
      obtain ⟨o, q, c, _⟩ := hit
      obtain ⟨o', q', c', _⟩ := p
      rw [z, q] at q'
      cases q'
      rw [c] at c'
      exact absurd c' (by decide)
    have hea : e ≠ a := fun z => by
      obtain ⟨o', q', c', _⟩ := p
      rw [← z, show s.heap.get? e = _ from he] at q'
      cases q'
      exact absurd (Value.type.inj c') (by decide)
    have hlt : i < its.toArray.size := by
      rw [List.size_toArray]
      exact (List.getElem?_eq_some_iff.mp hu).1
    refine wpAny_pyNext_enum_itemC (Draws.tuple (A := X.A.in1) (I.ok.hd hc) it a hta its.toArray) he ⟨hit, p⟩ hlt hne (fun hm => ?_) fun y h1 tk py ho st1 hT hsz hk => ?_
    · rcases List.mem_cons.mp hm with z | z
      · exact hne z
      · exact hea (List.mem_singleton.mp z)
    · have ey : y = u := by
        have q : its.toArray[i]? = some y := py
        rw [List.getElem?_toArray, hu] at q
        exact (Option.some.inj q).symm
      subst ey
      refine ⟨_, rfl, wpAny_letOwnedTupleGo_enum (s := { s with heap := h1, toks := tk + 1 }) ho fun h2 he2 sb => ?_⟩
      have hT2 : h2.get? s.heap.objs.size = some { cls := .type "tuple", data := .seq #[.int i tk, y] } := (sb.2 _ (Nat.ne_of_gt hel)).trans hT
      have ok : ObjOk X.prog X.w (upd H s.heap.objs.size (.tup [.int (i : Nat), x])) h2 s.heap.objs.size (.tup [.int (i : Nat), x]) := ⟨(by show 2 ≤ sizeLine; decide), [.int i tk, y], .cons ⟨_, rfl⟩ (.cons ru .nil), ⟨_, hT2, rfl, _, rfl⟩⟩
      have I1 : Inv X pins σ (upd H s.heap.objs.size (.tup [.int (i : Nat), x])) { s with heap := h2, toks := tk + 1 } := I.turnedNew (ch := [e, it]) (fun b ob hb q => by
        have b1 : b ≠ e := fun z => hb (z ▸ List.mem_cons_self)
        have b2 : b ≠ it := fun z => hb (z ▸ List.mem_cons_of_mem _ List.mem_cons_self)
        exact (sb.2 b b1).trans (hk b ob b1 b2 q)) hf (Nat.le_refl _) ok
      refine ⟨.ref s.heap.objs.size, _, I1, rfl, ⟨_, x, rfl, I.hok.fresh (Nat.le_refl _), rfl, fun ys hy => I.tuple_inj hy hq ▸ hx⟩, ⟨⟨y, ?_⟩, st1.1.at fun o q => (sb.2 it hne.symm).trans q, hne⟩, fun b hb => ?_⟩
      · rw [show ((i + 1 : Nat) : Int) = (i : Int) + 1 by omega]
        exact he2
      · have lt : b < s.heap.objs.size := by
          rcases List.mem_cons.mp hb with z | z
          · exact z ▸ hel
          · exact (List.mem_singleton.mp z) ▸ hil
        rw [upd_ne (Nat.ne_of_lt lt)]
        exact (hf b hb).1
  done := by
    intro X e1 e2 e3 hc i pins s σ H E I hf ⟨⟨old, he⟩, hit, hne⟩ ⟨xs, hq, hx⟩
    subst e1 e2 e3
    obtain ⟨its, rv, p, hz⟩ := I.tuple hq
    have hta : a ≠ it := fun z => by
      obtain ⟨o, q, c, _⟩ := hit
      obtain ⟨o', q', c', _⟩ := p
      rw [z, q] at q'
      cases q'
      rw [c] at c'
      exact absurd c' (by decide)
    have hn : its.toArray.size = i := by
      rw [List.size_toArray, ← rv.length, hx]
    have D := Draws.tuple (prog := X.prog) (w := X.w) (A := X.A.in1) (I.ok.hd hc) it a hta its.toArray
    rw [hn] at D
    obtain ⟨f0, f1, f2, f3, f4, f5⟩ := hf it (List.mem_cons_of_mem _ List.mem_cons_self)
    exact wpAny_pyNext_enum_endD D he ⟨hit, p⟩ fun h' eb => ⟨rfl, I.turned (t' := s.toks) (fun b o hb q => eb b o hb q) f0 f1 f3 f4 f5⟩
  self := fun A i s Q E ⟨⟨_, he⟩, _⟩ h => wpAny_pyIter_enum he h
end Tw
/-! Tw: walking an own object whose __iter__ returns a tuple's iterator. -/
namespace Tw
open PySem PySem.Spec PyProof.Rows L2 ItX
/-- at it: an iterator of the tuple at t, before its item i -/
def ItT (t it : Addr) (i : Nat) : HO := .ext fun h => h.IsTupleIter it t i
theorem itT_ok {P : Program} {w : World} {H : Hp} {h : Heap} {t it : Addr} {i : Nat} (e : h.IsTupleIter it t i) : ObjOk P w H h it (ItT t it i) := ⟨e, ⟨_, e.choose_spec.1⟩, fun h1 h2 q k => q.at fun o z => k _ z⟩
theorem itT_get {X : Cx} {pins : List (Addr × Obj)} {σ : L2.St} {H : Hp} {s : Shared} {t it : Addr} {i : Nat} (I : Inv X pins σ H s) (e : H it = some (ItT t it i)) : s.heap.IsTupleIter it t i := (I.hok it _ e).1
/-- iter(t), t a tuple: a young iterator -/
def rIterT (K : PySem.W.Frag) (n : Nat) : List V → Hp → VK → Prop := fun xs H Q => ∃ (t : Addr) (zs : List V), xs = [.ref t] ∧ SqT K H t zs ∧ ∀ it H', H it = none → n ≤ it → Same H H' → H' it = some (ItT t it 0) → Q (.ref it) H'
theorem call_iterT {X : Cx} : CallR X (.builtin "iter") (rIterT X.K X.s_0.heap.objs.size) := by
  intro pins s σ H xs us Q I r h
  obtain ⟨t, zs, rfl, hq, q⟩ := h
  obtain ⟨u, rfl, ru⟩ := vals1 r
  cases (show u = Value.ref t from ru)
  obtain ⟨its, rv, pl, hz⟩ := I.tuple hq
  refine Calls.call_function_entry (by decide +kernel) (by decide +kernel) PySem.W.kdk_entry_iter (PySem.W.kdk_args_iter _) ?_
  unfold Builtin.«iter»
  refine wpAny_bind (m := someArgs "iter" 1 2 _) (wpAny_of_eq (a := [Value.ref t]) (by first | rfl | kernel_rfl!) ?_)
  show wpAny _ _ (pyIter (.ref t) >>= _) _ _ _
  refine wpAny_bind (wpAny_pyIter_tuple (show s.heap.IsTuple t its.toArray from pl) (wpAny_pure ⟨_, rfl, ?_⟩))
  have hf := I.hok.fresh (Nat.le_refl s.heap.objs.size)
  have new : (s.heap.push { cls := .type "tuple_iterator", data := .fields #[.ref t, .int 0 0] }).IsTupleIter s.heap.objs.size t 0 := ⟨_, Heap.get?_push_size _ rfl, rfl, rfl⟩
  exact ⟨.ref s.heap.objs.size, upd H s.heap.objs.size (ItT t s.heap.objs.size 0), I.laid (t' := s.toks) (fun b u e => Heap.get?_push_of_some _ e) (Nat.le_refl _) (itT_ok new), rfl, q _ _ hf I.sz (same_new hf) upd_same⟩
/-- a def's promise that knows how many objects there are when it is called -/
structure FnN (P : Program) (w : World) (K : PySem.W.Frag) (mg : Str → Option Value) (base : Heap) (CX : CXT) (k : Nat) (f : Addr) (fd : FuncData) (ps : List Str) (sp : Nat → Sp) : Prop where
  len : ∀ n vs H Q E, sp n vs H Q E → vs.length = ps.length
  run : ∀ (A : Around) (outer : List Env) (s : Shared) (H : Hp) (args : Args) (us : List Value) (vs : List V) (Q : VK) (E : XK), Room k A → Env0 P w K mg base A outer s H →
    BindsTo s fd args (ps.zip us) → Vals vs us → sp s.heap.objs.size vs H Q E → codeAny (model P w) A (.call (.ref f) args) (CR CX outer P w H s Q E) s
theorem _root_.L2.FunD.okN {P : Program} {w : World} {K : PySem.W.Frag} {mg : Str → Option Value} {base : Heap} {CX : CXT} {x qual : Str} {params : Arguments} {body : List Stmt} {scope : Scope} {dvs : List V} {kws : List (Str × V)} {f : Addr} {fd : FuncData} {N ps : List Str} {k : Nat} {sp : Nat → Sp}
    (F : FunD K x qual params body scope dvs kws f fd) (S : FnScope N ps scope) (len : ∀ n vs H Q E, sp n vs H Q E → vs.length = ps.length)
    (hbody : ∀ (cdv : Value) (A : Around) (outer : List Env) (s : Shared) (H : Hp) (vs : List V) (Q : VK) (E : XK), Room k (A.deeper (envOfC qual scope s.heap.objs.size f cdv)) → sp s.heap.objs.size vs H Q E →
      ∃ t, PSs (cxOf CX P w K mg base N qual scope f cdv A outer s H E) body t ∧ t { nx := fun _ H' => Q .non H', rt := Q } (L2.start N vs) H) : FnN P w K mg base CX (k + 1) f fd ps sp := by
  obtain ⟨oc, od, dV, kV, doc, pm, an, cdv, ct, osl, rfl, lk, hcd, _, _⟩ := F.ex
  refine ⟨len, fun A outer s H args us vs Q E hr e0 hb r hsp => ?_⟩
  have at0 : ∀ b o, base.get? b = some o → s.heap.get? b = some o := fun b o e => (e0.bs b o e).1
  have hkind : ∀ y ∈ ps.zip us, scope.names.lookup y.1 = some .local ∨ (scope.names.lookup y.1 = some .cell ∧ ((cellsFrom (s.heap.objs.size + 1) scope.names []).lookup y.1).isSome = true) := by
    rintro ⟨n, v⟩ hy
    rcases S.par n (List.of_mem_zip hy).1 with q | q
    · exact .inl q
    · exact .inr ⟨q, PySem.W.cellsFrom_some _ _ _ (.inl q)⟩
  refine codeAny_call_function hr.depth ((e0.mod.kin.keeps at0) _ _ lk) rfl S.co S.gen rfl (PySem.W.codeRec_of (e0.mod.kin.keeps at0) hcd) (hb _ _ _ _ ?_)
  refine wpAny_newFunctionEnv_cells S.kind hkind fun env he s1 x => ?_
  subst he
  refine ⟨(e0.mod.nolimit.keeps at0).keeps x.toInCall.keep, codeAny_func ?_⟩
  obtain ⟨t, ht, hq⟩ := hbody cdv A outer s H vs Q E (hr.deeper _) hsp
  refine wpAny_mono (ht.run [] s1 (L2.start N vs) H _ (inv_start S hr.hd e0 (len _ _ _ _ _ hsp) r x) hq) (fun fl s' hs => ?_) fun e s' hs => hs
  cases fl with
  | ret u =>
    obtain ⟨v, σ', H', J, rv, q⟩ := hs
    exact ⟨v, H', J.os, J.bare, J.base, J.hok, rv, q⟩
  | next =>
    obtain ⟨σ', H', J, q⟩ := hs
    exact ⟨.non, H', J.os, J.bare, J.base, J.hok, rfl, q⟩
  | brk => exact hs.elim fun _ z => z.elim fun _ z => z.2.elim
  | cont => exact hs.elim fun _ z => z.elim fun _ z => z.2.elim
section
variable {X : Cx} {CX : CXT} {k : Nat} {f C : Addr} {fd : FuncData} {ps : List Str} {E : XK} {pins : List (Addr × Obj)} {σ : L2.St} {H : Hp} {s : Shared}
/-- what an own __iter__ promises that returns iter(self.f), a tuple: f's items are told by ITS -/
def spIter (C : Addr) (ff : Str) : Nat → Sp := fun n vs H Q _ => ∃ (a dx t : Addr) (fs : List (Str × V)) (zs : List V), vs = [.ref a] ∧ H a = some (.ins C dx fs) ∧ fs.lookup ff = some (.ref t) ∧ H t = some (.tup zs) ∧ ∀ it H', H it = none → n ≤ it → Same H H' → H' it = some (ItT t it 0) → Q (.ref it) H'
theorem iter_ownT {A' : Around} {ff : Str} {a dx t : Addr} {fs : List (Str × V)} {zs : List V} {R : Value → Shared → Prop} (hs : PySem.W.findIn X.K (.ref C) "__iter__" = some (some (.ref f))) (hf : PySem.W.isFn X.K (.ref f) = true) (F : FnN X.prog X.w X.K X.mg X.base CX k f fd ps (spIter C ff)) (hr : Room k A')
    (he : Env0 X.prog X.w X.K X.mg X.base A' X.stack s H) (hb : Binds X.K fd ps []) (hx : Passes CX X E) (I : Inv X pins σ H s) (ha : H a = some (.ins C dx fs)) (hl : fs.lookup ff = some (.ref t)) (ht : H t = some (.tup zs))
    (q : ∀ it s' H', Inv X pins σ H' s' → H it = none → Same H H' → H' it = some (ItT t it 0) → X.s_0.heap.objs.size ≤ it → R (.ref it) s') : wpAny (model X.prog X.w) A' (pyIter (.ref a)) R X.xe s := by
  obtain ⟨od, ox, J⟩ := inst_at I ha
  obtain ⟨m0, hF⟩ := I.fr
  refine PySem.W.owit_iter hF I.ok.mod.kin J hs hf ?_
  have hsp : spIter C ff s.heap.objs.size [.ref a] H (fun v H' => ∃ it, v = .ref it ∧ s.heap.objs.size ≤ it ∧ H it = none ∧ Same H H' ∧ H' it = some (ItT t it 0)) E := ⟨a, dx, t, fs, zs, rfl, ha, hl, ht, fun it H' h0 hn sm e => ⟨it, rfl, hn, h0, sm, e⟩⟩
  have len := F.len _ _ _ _ _ hsp
  have b := hb s [.ref a] I.kIn (by simpa using len)
  rw [List.append_nil] at b
  refine wpAny_call (codeAny_mono (F.run A' X.stack s H ⟨[.ref a], []⟩ [.ref a] [.ref a] _ E hr he b (.cons rfl .nil) hsp) fun r s' hq => ?_)
  match r, hq with
  | .error e, hq => exact hx pins σ H s e s' I hq
  | .ok (.ret u), hq =>
    obtain ⟨v, H', I', rv, it, ev, hn, h0, sm, e⟩ := I.after hq
    subst ev
    cases (show u = Value.ref it from rv)
    have hit := itT_get I' e
    show PySem.W.OwitIt _ _ _ _ _ _
    unfold PySem.W.OwitIt
    exact wpAny_specialOf hit.typeIs PySem.F.slot_tuple_iterator_next.lookup (q it s' H' I' h0 sm e (Nat.le_trans I.sz hn))
theorem drop_same {H H1 : Hp} {it : Addr} (h0 : H it = none) (sm : Same H H1) : Same H (dropH H1 it) := fun b o e => by
  rw [dropH_ne (ne_of_none e h0)]
  exact sm b o e
/-- for x in o -/
def iOwn (K : PySem.W.Frag) (C : Addr) (ff : Str) (te : TE) : TI := fun σ H R => te σ H fun x H1 => ∃ (a dx t : Addr) (fs : List (Str × V)) (zs : List V), x = .ref a ∧ H1 a = some (.ins C dx fs) ∧ fs.lookup ff = some (.ref t) ∧ H1 t = some (.tup zs) ∧ ∀ H2, Same H1 H2 → R (Itt K t) H2
theorem pi_own {tg e : Expr} {te : TE} {ff : Str} (hs : PySem.W.findIn X.K (.ref C) "__iter__" = some (some (.ref f))) (hf : PySem.W.isFn X.K (.ref f) = true) (F : FnN X.prog X.w X.K X.mg X.base CX k f fd ps (spIter C ff)) (hr : Room k X.A) (hb : Binds X.K fd ps []) (hx : Passes CX X E) (he : PE X e te) : PI X tg e (iOwn X.K C ff te) := by
  refine ⟨fun pins s σ H R I h => thn (he.run pins s σ H _ I h) fun u s1 hh => ?_⟩
  obtain ⟨x, H1, I1, rx, a, dx, t, fs, zs, ex, ha, hl, ht, q⟩ := hh
  subst ex
  cases (show u = Value.ref a from rx)
  refine iter_ownT hs hf F hr I1.env0 hb hx I1 ha hl ht fun it s2 H2 I2 h0 sm e2 hn => ?_
  have e3 := e2
  unfold ItT at e3
  refine ⟨it, [it], _, _, dropH H2 it, rfl, inv_drop I2 e3, turn_tuple t it, itT_get I2 e2, fun b hb => ?_, q _ (drop_same h0 sm)⟩
  rw [List.mem_singleton.mp hb]
  exact inv_fp I2 e2 hn
end
section
variable {prog : Program} {w : World} {A : Around} {E : Value → Shared → Prop} {s : Shared}
/-- the enumerate object behind iter(v) -/
def enumO (it : Addr) : Obj := { cls := .type "enumerate", data := .fields #[.none, .bool false, .ref it, rawInt 0, .none, .none] }
set_option maxHeartbeats 4000000 in
theorem meets_enumI (v : Value) : MeetsIn prog w (Builtin.«enumerate.__new__» ⟨[.type "enumerate", v], []⟩) (fun B R s => wpAny (model prog w) B.in1 (pyIter v) (fun u s' => ∃ it, u = .ref it ∧ R (.ok (.ret (.ref s'.heap.objs.size))) { s' with heap := s'.heap.push (enumO it) }) (fun e s' => R (.error e) s') s) :=
  .of_wp fun B R s h => by
    have hsub := sub_enumerate
    have q1 : ∀ {Q : Value → Shared → Prop}, (∀ it s', R (.ok (.ret (.ref s'.heap.objs.size))) { s' with heap := s'.heap.push (enumO it) } → Q (.ref it) s') → wpAny (model prog w) B.in1 (pyIter v) Q (fun e s' => R (.error e) s') s := fun hQ => wpAny_mono h (fun u s' ⟨it, eu, q⟩ => eu ▸ hQ it s' q) fun _ _ z => z
    obtain ⟨hp, g, d, tk, os⟩ := s
    wp_walk using q1
    refine wpAny_stack_any fun st => wpAny_pure ?_
    split
    · rename_i c _ _ _ _ _
      cases (c == Value.type "enumerate")
      · wp_walk using q1
        rintro it ⟨hp2, g2, d2, tk2, os2⟩ r
        wp_walk
        exact ⟨_, rfl, r⟩
      · wp_walk using q1
        rintro it ⟨hp2, g2, d2, tk2, os2⟩ r
        wp_walk
        exact ⟨_, rfl, r⟩
    · wp_walk using q1
      rintro it ⟨hp2, g2, d2, tk2, os2⟩ r
      wp_walk
      exact ⟨_, rfl, r⟩
theorem enum_call {v : Value} {Q : Value → Shared → Prop} (hi : wpAny (model prog w) A.in1.in1 (pyIter v) (fun u s' => ∃ it, u = .ref it ∧ Q (.ref s'.heap.objs.size) { s' with heap := s'.heap.push (enumO it) }) E s) : wpAny (model prog w) A (call (.type "enumerate") [v]) Q E s :=
  callType_newIn PySem.F.called_enumerate (by decide) (PySem.F.typeCall_enumerate_1 _) (PySem.F.newCall_enumerate_1 _) (fun obj => PySem.F.args_object_init_2 obj _) PySem.F.entry_enumerate_new (meets_enumI v)
    (wpAny_mono hi (fun u s' ⟨it, eu, q⟩ => ⟨it, eu, ⟨_, Heap.get?_push_size _ rfl, rfl⟩, q⟩) fun _ _ z => z)
end
section
variable {X : Cx} {CX : CXT} {k : Nat} {f C : Addr} {fd : FuncData} {ps : List Str} {E : XK}
/-- for i, x in enumerate(v): v a list, a tuple, an own object -/
def iEnumA (K : PySem.W.Frag) (C : Addr) (ff : Str) (ta : TA) : TI := fun σ H R => ta σ H fun vs H1 => ∃ a, vs = [.ref a] ∧ (((∃ xs, SqL K H1 a xs) ∧ R (IteG fun H xs => SqL K H a xs) H1) ∨ ((∃ xs, SqT K H1 a xs) ∧ R (IteG fun H xs => SqT K H a xs) H1) ∨
  ∃ (dx t : Addr) (fs : List (Str × V)) (zs : List V), H1 a = some (.ins C dx fs) ∧ fs.lookup ff = some (.ref t) ∧ H1 t = some (.tup zs) ∧ ∀ H2, Same H1 H2 → R (IteG fun H xs => SqT K H t xs) H2)
theorem pi_enumA {e : Expr} {ta : TA} {ff : Str} {p pos tpos : Pos} {elts : List Expr} {kk : Nat} (hs : PySem.W.findIn X.K (.ref C) "__iter__" = some (some (.ref f))) (hf : PySem.W.isFn X.K (.ref f) = true) (F : FnN X.prog X.w X.K X.mg X.base CX k f fd ps (spIter C ff)) (hr : Room (k + 2) X.A) (hb : Binds X.K fd ps []) (hx : Passes CX X E)
    (hg : Gl X "enumerate") (hm : X.mg "enumerate" = none) (ha : PA X [e] ta) (hst : starEach [e] X.env = [(false, eval e X.env)] := by rfl) : PI X (.Tuple elts kk tpos) (.Call (.Name "enumerate" p) [e] [] pos) (iEnumA X.K C ff ta) := by
  refine ⟨fun pins s σ H R I h => Call_ (ld_blt I hg hm boot_enumerate (PyProof.Rows.callWith_type1 (thn (ha.run pos pins s σ H _ I h) fun us s1 ⟨vs, H1, I1, r1, q1⟩ => ?_) hst rfl))⟩
  obtain ⟨a, ex, q1⟩ := q1
  subst ex
  obtain ⟨u, rfl, ru⟩ := vals1 r1
  cases (show u = Value.ref a from ru)
  refine enum_call ?_
  have push : ∀ {s2 : Shared} {it : Addr}, (∀ b o, s2.heap.get? b = some o → (s2.heap.push (enumO it)).get? b = some o) := fun b o z => Heap.get?_push_of_some _ z
  have isE : ∀ {s2 : Shared} {it : Addr}, IsEnum (s2.heap.push (enumO it)) s2.heap.objs.size it ((0 : Nat) : Int) .none := fun {s2 it} => Heap.get?_push_size _ rfl
  rcases q1 with ⟨⟨xs, hq⟩, q⟩ | ⟨⟨xs, hq⟩, q⟩ | ⟨dx, t, fs, zs, h1, h2, h3, q⟩
  · obtain ⟨its, rv, pl, hz⟩ := I1.list hq
    refine wpAny_pyIter_list pl.isList ⟨_, rfl, ?_⟩
    have I2 : Inv X pins σ H1 { s1 with heap := s1.heap.push { cls := .type "list_iterator", data := .fields #[.ref a, .int 0 0] } } := I1.kept (t' := s1.toks) fun b o z => Heap.get?_push_of_some _ z
    have I3 : Inv X pins σ H1 { s1 with heap := (s1.heap.push { cls := .type "list_iterator", data := .fields #[.ref a, .int 0 0] }).push (enumO s1.heap.objs.size) } := I2.kept (t' := s1.toks) push
    have hz2 : (s1.heap.push { cls := .type "list_iterator", data := .fields #[.ref a, .int 0 0] }).objs.size = s1.heap.objs.size + 1 := Heap.size_push ..
    have hne : (s1.heap.push { cls := .type "list_iterator", data := .fields #[.ref a, .int 0 0] }).objs.size ≠ s1.heap.objs.size := by omega
    have itr : ((s1.heap.push { cls := .type "list_iterator", data := .fields #[.ref a, .int 0 0] }).push (enumO s1.heap.objs.size)).IsListIter s1.heap.objs.size a 0 := ⟨_, Heap.get?_push_of_some _ (Heap.get?_push_size _ rfl), rfl, rfl⟩
    refine wpAny_pyIter_enum isE ⟨_, [_, s1.heap.objs.size], _, _, H1, rfl, I3, turnL a _ s1.heap.objs.size, ⟨⟨.none, isE⟩, itr, hne⟩, fun b hb => ?_, q⟩
    have lt : s1.heap.objs.size ≤ b := by
      rcases List.mem_cons.mp hb with z | z
      · rw [z]
        show s1.heap.objs.size ≤ (s1.heap.push _).objs.size
        omega
      · exact Nat.le_of_eq (List.mem_singleton.mp z).symm
    exact I1.fpOk lt (I1.hok.fresh lt)
  · obtain ⟨its, rv, pl, hz⟩ := I1.tuple hq
    refine wpAny_pyIter_tuple (show s1.heap.IsTuple a its.toArray from pl) ⟨_, rfl, ?_⟩
    have I2 : Inv X pins σ H1 { s1 with heap := s1.heap.push { cls := .type "tuple_iterator", data := .fields #[.ref a, .int 0 0] } } := I1.kept (t' := s1.toks) fun b o z => Heap.get?_push_of_some _ z
    have I3 : Inv X pins σ H1 { s1 with heap := (s1.heap.push { cls := .type "tuple_iterator", data := .fields #[.ref a, .int 0 0] }).push (enumO s1.heap.objs.size) } := I2.kept (t' := s1.toks) push
    have hz2 : (s1.heap.push { cls := .type "tuple_iterator", data := .fields #[.ref a, .int 0 0] }).objs.size = s1.heap.objs.size + 1 := Heap.size_push ..
    have hne : (s1.heap.push { cls := .type "tuple_iterator", data := .fields #[.ref a, .int 0 0] }).objs.size ≠ s1.heap.objs.size := by omega
    have itr : ((s1.heap.push { cls := .type "tuple_iterator", data := .fields #[.ref a, .int 0 0] }).push (enumO s1.heap.objs.size)).IsTupleIter s1.heap.objs.size a 0 := ⟨_, Heap.get?_push_of_some _ (Heap.get?_push_size _ rfl), rfl, rfl⟩
    refine wpAny_pyIter_enum isE ⟨_, [_, s1.heap.objs.size], _, _, H1, rfl, I3, turnT a _ s1.heap.objs.size, ⟨⟨.none, isE⟩, itr, hne⟩, fun b hb => ?_, q⟩
    have lt : s1.heap.objs.size ≤ b := by
      rcases List.mem_cons.mp hb with z | z
      · rw [z]
        show s1.heap.objs.size ≤ (s1.heap.push _).objs.size
        omega
      · exact Nat.le_of_eq (List.mem_singleton.mp z).symm
    exact I1.fpOk lt (I1.hok.fresh lt)
  · have hr1 : Room (k + 1) X.A.in1 := Room.in1 hr
    refine iter_ownT hs hf F hr1.in1 I1.env0.in1.in1 hb hx I1 h1 h2 h3 fun it s2 H2 I2 h0 sm e2 hn => ⟨it, rfl, ?_⟩
    have I3 : Inv X pins σ H2 { s2 with heap := s2.heap.push (enumO it) } := I2.kept (t' := s2.toks) push
    have e3 := e2
    unfold ItT at e3
    have hit : it < s2.heap.objs.size := by
      obtain ⟨_, z, _⟩ := itT_get I2 e2
      exact Heap.lt_size z
    have hne : s2.heap.objs.size ≠ it := Nat.ne_of_gt hit
    refine wpAny_pyIter_enum isE ⟨s2.heap.objs.size, [s2.heap.objs.size, it], _, _, dropH H2 it, rfl, inv_drop I3 e3, turnT t s2.heap.objs.size it, ⟨⟨.none, isE⟩, (itT_get I3 e2), hne⟩, fun b hb => ?_, q _ (drop_same h0 sm)⟩
    rcases List.mem_cons.mp hb with z | z
    · rw [z]
      exact I2.fpOk (Nat.le_refl _) (by
        rw [dropH_ne hne]
        exact I2.hok.fresh (Nat.le_refl _))
    · rw [List.mem_singleton.mp z]
      exact inv_fp I3 e2 hn
end
/-- the turns of an enumerate -/
theorem for_enum {G : Hp → List V → Prop} {xs : List V} {g : TG} {tb : TS} {D : Ends} {ρ : L2.St} {G0 : Hp} (P : Nat → L2.St → Hp → Prop) (first : P 0 ρ G0) (still : ∀ i σ H, i ≤ xs.length → P i σ H → G H xs)
    (step : ∀ i x T σ H H', xs[i]? = some x → P i σ H → H T = none → Same H H' → H' T = some (.tup [.int (i : Nat), x]) → g (.ref T) σ H' fun σ2 H2 => tb { D with nx := P (i + 1), ct := P (i + 1), bk := D.nx } σ2 H2) (last : ∀ σ H, P xs.length σ H → D.nx σ H) :
    ∃ W : Nat → Nat → L2.St → Hp → Prop, (∃ m, W 0 m ρ G0) ∧ ∀ i m σ H, W i m σ H → ((IteG G).stop i H ∧ D.nx σ H) ∨ ((IteG G).go i H ∧ ∃ N : L2.St → Hp → Prop, (∀ σ' H', N σ' H' → ∃ m', m' < m ∧ W (i + 1) m' σ' H') ∧
      ∀ x H', (IteG G).yld i H x H' → g x σ H' fun σ2 H2 => tb { D with nx := N, ct := N, bk := D.nx } σ2 H2) := by
  refine ⟨fun i m σ H => m = xs.length - i ∧ i ≤ xs.length ∧ P i σ H, ⟨_, rfl, Nat.zero_le _, first⟩, ?_⟩
  rintro i m σ H ⟨rfl, hi, p⟩
  have gx := still i σ H hi p
  rcases Nat.lt_or_ge i xs.length with lt | ge
  · refine .inr ⟨⟨xs, xs[i], gx, List.getElem?_eq_getElem lt⟩, P (i + 1), fun σ' H' p' => ⟨_, Nat.sub_succ_lt_self _ _ lt, rfl, lt, p'⟩, fun x H' ⟨T, y, ex, hT, eH, hy⟩ => ?_⟩
    subst ex eH
    exact step i y T σ H _ (hy xs gx) p hT (same_new hT) upd_same
  · have e : i = xs.length := Nat.le_antisymm hi ge
    subst e
    exact .inl ⟨⟨xs, gx, rfl⟩, last σ H p⟩
end Tw
/-! Tw: repr of any data, get of a written dict, isinstance against a tuple of classes, tuples of the written part, the hook with tables. -/
namespace Tw
open PySem PySem.Spec PyProof.Rows L2 He
section
variable {X : Cx}
/-- repr(x), x any data -/
def rReprV (K : PySem.W.Frag) : List V → Hp → VK → Prop := fun xs H Q => ∃ (v : V) (d : PyData), xs = [v] ∧ Dx K H v d ∧ mild d = true ∧ d.depth ≤ 64 ∧ cap d ≤ 16777216 ∧ Q (.str d.shown) H
theorem call_reprV (hG : NoG X.A) (hu : X.A.units + 70 < cLine) : CallR X (.builtin "repr") (rReprV X.K) := by
  intro pins s σ H xs us Q I r h
  obtain ⟨v, d, rfl, hd, hm, hdp, hc, q⟩ := h
  have hl := Nat.le_trans (shown_le d hm) (show cap d ≤ sizeLine by rw [sizeLine_eq]; exact hc)
  cases v with
  | ref a => exact call_repr hG hu pins s σ H _ us Q I r ⟨a, d, rfl, hd, hm, hdp, hc, q⟩
  | non =>
    cases hd
    obtain ⟨u, rfl, ru⟩ := vals1 r
    cases ru
    exact PySem.P.repr_of_none ⟨.str _, H, I.tok _, ⟨_, rfl⟩, by simpa only [PyData.shown] using q⟩
  | bl b =>
    cases hd
    obtain ⟨u, rfl, ru⟩ := vals1 r
    cases ru
    exact PySem.P.repr_of_bool ⟨.str _, H, I.tok _, ⟨_, rfl⟩, by simpa only [PyData.shown] using q⟩
  | int i =>
    cases hd
    obtain ⟨u, rfl, t, rfl⟩ := vals1 r
    exact PySem.P.repr_of_int (by simpa [mild] using hm) ⟨.str _, H, I.tok _, ⟨_, rfl⟩, by simpa only [PyData.shown] using q⟩
  | str x =>
    cases hd
    obtain ⟨u, rfl, t, rfl⟩ := vals1 r
    exact PySem.P.repr_of_str ⟨.str _, H, I.tok _, ⟨_, rfl⟩, by simpa only [PyData.shown] using q⟩ (by simpa only [PyData.shown] using hl)
  | _ => cases hd
/-- isinstance(x, (C, D, ..)), x anything that is known, errors too -/
def rIsAT (K : PySem.W.Frag) : List V → Hp → VK → Prop := fun xs H Q => ∃ (x : V) (tp : Addr) (cs : List V) (t : Value) (us : List Value) (b : Bool), xs = [x, .ref tp] ∧ H tp = some (.tup cs) ∧ Paired ClsV cs us ∧
  (TyX K H x t ∨ ∃ (a C : Addr) (d : Addr) (fs : List (Str × V)), x = .ref a ∧ t = .ref C ∧ IsX H a C (some d) ∧ IsXd H d fs ∧ XC K C ∧ XO K) ∧ PySem.W.kitAny K t us = some b ∧ Q (.bl b) H
theorem call_isAT : CallR X (.builtin "isinstance") (rIsAT X.K) := by
  intro pins s σ H xs us Q I r h
  obtain ⟨x, tp, cs, t, ws, b, rfl, hT, k, ty, e, q⟩ := h
  obtain ⟨u1, u2, rfl, r1, r2⟩ := vals2 r
  cases (show u2 = Value.ref tp from r2)
  obtain ⟨_, its, rv, o, h1, h2, n, h3⟩ := (show ObjOk X.prog X.w H s.heap tp (.tup cs) from I.hok tp _ hT)
  have e3 := ClsV.all k rv
  subst e3
  obtain ⟨oc, od, dt, sl⟩ := o
  simp only at h2 h3
  subst h2 h3
  rcases ty with ty | ⟨a, C, d, fs, rfl, rfl, ia, idd, T, O⟩
  · obtain ⟨P, Z, p, hx⟩ := kit_of I r1 ty
    exact PySem.W.kia_tup Z I.kIn p h1 e hx fun tk => ⟨.bl b, H, I.tok tk, rfl, q⟩
  · cases (show u1 = Value.ref a from r1)
    obtain ⟨oe, vs, ho, hz, hdt⟩ := ia.get I.hok
    obtain ⟨mA, hns, hr⟩ := idd.get I.hok
    obtain ⟨od, hod, hlk⟩ := lookIn_ns hns
    have J : PySem.W.InstAt s.heap a oe C (some od) := ⟨ho, hz.1, by unfold PySem.W.notCls; rw [hdt] <;> rfl, by rw [hz.2]; exact hod⟩
    exact PySem.W.kia_tup (PySem.W.kitx_exc (od := some od) (oexC_cl T.ox) T.ga T.gg T.ox.exC T.ca O.hn O.ht T.cm) I.kIn J h1 e (fun z => nomatch z) fun tk => ⟨.bl b, H, I.tok tk, rfl, q⟩
end
/-- d.get(y, x), d a dict of the top with text keys -/
def tKGet2 (K : PySem.W.Frag) (d : Addr) (td ty tx : TE) : TE := fun σ H Q => td σ H fun x H1 => x = .ref d ∧ ty σ H1 fun y H2 => ∃ z, y = .str z ∧ tx σ H2 fun q H3 => ∃ (r : Option Value) (v : V), PySem.W.nsIn K d z = some r ∧ (∀ u, RelV q u → RelV v (r.getD u)) ∧ Q v H3
section
variable {X : Cx} {o e f : Expr} {apos cpos : Pos} {td ty tx : TE} {d : Addr} {es : Array DictEntry} {n : Nat}
theorem pe_kget2 (D : KDict X.K X.w d es n) (ho : PE X o td) (he : PE X e ty) (hf : PE X f tx) (m : M2 X o "get" apos e f cpos) : PE X (.Call (.Attribute o "get" apos) [e, f] [] cpos) (tKGet2 X.K d td ty tx) := by
  refine ⟨fun pins s σ H Q I h => ?_⟩
  refine wpAny_Call_method m.base m.few m.line PySem.F.plainAttrs_dict PySem.F.slot_dict_get PySem.F.type_dict_get (thn (ho.run pins s σ H _ I h) fun u s1 ⟨x, H1, I1, rx, ex, q1⟩ => ?_)
  subst ex
  obtain rfl : u = Value.ref d := rx
  refine ⟨kd_type D I1, fun b q => by cases q; exact ⟨_, I1.kIn _ _ D.at_, rfl⟩, ?_⟩
  rw [m.trees]
  refine Calls.callWith_builtin rfl (Calls.evalArgs_plain (Calls.spliced_cons (thn (he.run pins s1 σ H1 _ I1 q1) fun iv s2 ⟨y, H2, I2, ry, z, ez, q2⟩ =>
    Calls.spliced_cons (thn (hf.run pins s2 σ H2 _ I2 q2) fun fv s3 ⟨q, H3, I3, rq, r, v, er, hv, q3⟩ => Calls.spliced_nil ?_))))
  subst ez
  obtain ⟨t, rfl⟩ := ry
  refine call_meetsIn PySem.F.slot_dict_get (kd_type D I3) PySem.F.entry_dict_get (PySem.F.args_dict_get_3 _ _ _) (meets_dict_get_default (PySem.strKind X.prog X.w) d (PySem.strKind_is X.prog X.w z t) D.low fv) ⟨_, PySem.W.mapOf_K (prog := X.prog) I3.kIn D.at_ D.lit, ?_⟩
  rw [PySem.W.find_K D.at_ er]
  exact ⟨v, H3, I3.tok _, hv _ rq, q3⟩
end
/-! ### tuples of the written part -/
def tupB (K : Fg) (a : Addr) (vs : List V) : Bool := match K.lookup a with
  | some ⟨.type t, _, .seq its _, _⟩ => decide (t = "tuple") && (decide (its.size ≤ 1000) && relAll vs its.toList)
  | _ => false
theorem tupB_ok {K : Fg} {a : Addr} {vs : List V} (h : tupB K a vs = true) (H : Hp) : SqT K H a vs := by
  unfold tupB at h
  cases e : K.lookup a with
  | none =>
    rw [e] at h
    cases h
  | some o =>
    rw [e] at h
    obtain ⟨oc, od, dt, sl⟩ := o
    cases oc with
    | type t =>
      cases dt with
      | seq its n =>
        obtain ⟨h1, h⟩ := ba h
        obtain ⟨h2, h3⟩ := ba h
        have e1 := of_decide_eq_true h1
        subst e1
        exact .inr ⟨_, its, n, e, rfl, rfl, Nat.le_trans (of_decide_eq_true h2) (by decide), relAll_ok h3⟩
      | _ => cases h
    | _ => cases h
/-- C.f, a constant read off the class -/
def cvalB (K : Fg) (C : Addr) (f : Str) (v : V) : Bool := match PySem.W.findCls K (.ref C) (.type "type") f with
  | some (.val u) => relB v u
  | _ => false
theorem cvalB_ok {K : Fg} {C : Addr} {f : Str} {v : V} (h : cvalB K C f v = true) : ∃ u, ClX.CVal K C (.type "type") f v u := by
  unfold cvalB at h
  split at h
  · rename_i u e
    exact ⟨u, e, relB_ok h⟩
  · cases h
def creadB (K : Fg) (C : Addr) : Bool := PySem.W.readsIn K C (.type "type") && eqO (PySem.W.specialIn K (.ref C) "__getattribute__") (some (some (.builtin "type.__getattribute__")))
theorem creadB_ok {K : Fg} {C : Addr} (h : creadB K C = true) : ClX.CRead K C (.type "type") := by
  obtain ⟨h1, h2⟩ := ba h
  exact ⟨h1, eqO_ok h2⟩
/-! ### the hook with tables -/
abbrev AlYT : Type := AlD × List (Option (List (Option (Str × Int))))
def obsYT (fs : Fz) (fn : List DefD) (ts : List Tab) (K : Fg) : AlYT := (obsY fs fn K, ts.map fun t => dicW K (t.1 K))
def valYT (fn : List DefD) (ts : List Tab) (w : World) : AlYT := (valD fn, ts.map fun t => some (keysIn w.params t.2))
def obsYTG (n : Nat) (fs : Fz) (fn : List DefD) (ts : List Tab) (g : Addr → Option Obj) : AlYT := obsYT fs fn ts (frG g (asD g n ++ [cStatics]))
def SaysYT (fs : Fz) (fn : List DefD) (ts : List Tab) (w : World) (K : Fg) : Prop := obsYT fs fn ts K = valYT fn ts w
def hookYT (n : Nat) (fs : Fz) (fn : List DefD) (ts : List Tab) : PySem.W.Hook where
  α := AlYT
  obs := fun s => obsYTG n fs fn ts s.heap.get?
  val := fun w => valYT fn ts w
  says := fun w h => ∃ K : Fg, K.In h ∧ SaysYT fs fn ts w K
  of := fun _ _ e => ⟨_, frG_in, e⟩
  keeps := fun _ _ _ ⟨K, hK, c⟩ k => ⟨K, PySem.W.Frag.In.keeps hK k, c⟩
theorem obsYTG_eq {n : Nat} {fs : Fz} {fn : List DefD} {ts : List Tab} {g : Addr → Option Obj} {s : Shared} (h : ∀ a, g a = s.heap.get? a) : obsYTG n fs fn ts g = (hookYT n fs fn ts).obs s := by
  have e : g = s.heap.get? := funext h
  rw [e] <;> rfl
section
variable {fs : Fz} {fn : List DefD} {ts : List Tab} {w : World} {K : Fg}
theorem SaysYT.y (c : SaysYT fs fn ts w K) : SaysY fs fn K := congrArg (fun z : AlYT => z.1) c
theorem SaysYT.tab (c : SaysYT fs fn ts w K) (i : Nat) {t : Tab} (h : ts[i]? = some t := by rfl) : ∃ es n, KDict K w (t.1 K) es n := by
  have e : ts.map (fun t => dicW K (t.1 K)) = ts.map fun t => some (keysIn w.params t.2) := congrArg (fun z : AlYT => z.2) c
  have e2 : (ts.map fun t => dicW K (t.1 K))[i]? = (ts.map fun t => some (keysIn w.params t.2))[i]? := by rw [e]
  rw [List.getElem?_map, List.getElem?_map, h] at e2
  exact dicW_ok (Option.some.inj e2)
end
/-! ### small texts -/
/-- signs below 128, at most n -/
def Small (n : Nat) (z : Str) : Prop := z.length ≤ n ∧ ∀ c ∈ z.cps.toList, c < 128
theorem Small.app {m n : Nat} {x y : Str} (hx : Small m x) (hy : Small n y) : Small (m + n) (x ++ y) := by
  refine ⟨by rw [Str.length_append]; exact Nat.add_le_add hx.1 hy.1, fun c hc => ?_⟩
  rw [show (x ++ y).cps.toList = TL.tl (x ++ y) from rfl, TL.tl_append] at hc
  rcases List.mem_append.mp hc with q | q
  · exact hx.2 c q
  · exact hy.2 c q
theorem Small.cut {n : Nat} {x : Str} (hx : Small n x) (lo hi : Option Int) : Small n (cutS x lo hi) := by
  refine ⟨Nat.le_trans (cutS_length x lo hi) hx.1, fun c hc => hx.2 c ?_⟩
  unfold cutS at hc
  exact List.mem_of_mem_drop (List.mem_of_mem_take (by simpa using hc))
theorem Small.mono {m n : Nat} {x : Str} (hx : Small m x) (h : m ≤ n) : Small n x := ⟨Nat.le_trans hx.1 h, hx.2⟩
theorem Small.mild {n : Nat} {x : Str} (hx : Small n x) : Tw.mild (.str x) = true := by
  unfold Tw.mild
  rw [List.all_eq_true]
  exact fun c hc => decide_eq_true (Nat.lt_trans (hx.2 c hc) (by decide))
def smallB (n : Nat) (z : Str) : Bool := decide (z.length ≤ n) && z.cps.toList.all fun c => decide (c < 128)
theorem smallB_ok {n : Nat} {z : Str} (h : smallB n z = true) : Small n z := by
  obtain ⟨h1, h2⟩ := ba h
  exact ⟨of_decide_eq_true h1, fun c hc => of_decide_eq_true (List.all_eq_true.mp h2 c hc)⟩
theorem Small.strOk {n : Nat} {z : Str} (h : Small n z) : PyData.strOk z = true := by
  unfold PyData.strOk
  rw [← Array.all_toList, List.all_eq_true]
  exact fun c hc => decide_eq_true (Nat.lt_trans (h.2 c hc) (by decide))
/-! ### lists of texts -/
theorem dxStrs {K : PySem.W.Frag} {H : Hp} : ∀ zs : List Str, DxAll K H (zs.map V.str) (zs.map PyData.str)
  | [] => .nil
  | z :: zs => .cons (.str z) (dxStrs zs)
theorem dxBools {K : PySem.W.Frag} {H : Hp} : ∀ zs : List Bool, DxAll K H (zs.map V.bl) (zs.map PyData.bool)
  | [] => .nil
  | z :: zs => .cons (.bl z) (dxBools zs)
theorem dpStrs {K : PySem.W.Frag} {H : Hp} : ∀ zs : List Str, DpAll K H (zs.map V.str) (zs.map PyData.str)
  | [] => .nil
  | z :: zs => .cons (.str z) (dpStrs zs)
theorem mildStrs {n : Nat} : ∀ zs : List Str, (∀ z ∈ zs, Small n z) → mildAll (zs.map .str) = true ∧ capAll (zs.map .str) ≤ (12 * n + 100) * zs.length
  | [], _ => ⟨rfl, Nat.le_refl _⟩
  | z :: zs, h => by
    obtain ⟨h1, h2⟩ := mildStrs zs fun y hy => h y (List.mem_cons_of_mem _ hy)
    have h3 := h z List.mem_cons_self
    constructor
    · simp only [List.map_cons, mildAll, h3.mild, h1, Bool.and_self]
    · simp only [List.map_cons, capAll, List.length_cons]
      have h4 : cap (.str z) ≤ 12 * n + 90 := by
        have := h3.1
        simp only [cap]
        omega
      rw [Nat.mul_add]
      omega
theorem depthStrs : ∀ zs : List Str, PyData.depthAll (zs.map PyData.str) = 0
  | [] => rfl
  | z :: zs => by simp only [List.map_cons, PyData.depthAll, PyData.depth, depthStrs zs, Nat.max_self]
/-- what repr asks of a list of small texts -/
theorem reprStrs {n : Nat} (zs : List Str) (h : ∀ z ∈ zs, Small n z) (hn : n ≤ 1000) (hz : zs.length ≤ 1000) : mild (.list (zs.map .str)) = true ∧ (PyData.list (zs.map .str)).depth ≤ 64 ∧ cap (.list (zs.map .str)) ≤ 16777216 := by
  obtain ⟨h1, h2⟩ := mildStrs zs h
  have h3 : (12 * n + 100) * zs.length ≤ 12100 * 1000 := Nat.mul_le_mul (by omega) hz
  refine ⟨by simpa [mild] using h1, by simp only [PyData.depth, depthStrs]; decide, ?_⟩
  simp only [cap]
  omega
end Tw
/-! ### the defs of a text, by their number -/
namespace Tw
open PySem PySem.Spec PyProof.Rows L2 He
abbrev DefsAt (fn : List DefD) (K : Fg) (fd : Nat → FuncData) : Prop := ∀ (i : Nat) (d : DefD), fn[i]? = some d → FunD K d.name d.qual d.params d.body d.scope (d.dvs K) (d.kws K) (fAd K d.at_) (fd i)
theorem SaysY.defs {fs : Fz} {fn : List DefD} {K : Fg} (c : SaysY fs fn K) {d0 : DefD} (h0 : fn[0]? = some d0) : ∃ fd : Nat → FuncData, DefsAt fn K fd := by
  obtain ⟨u0, _⟩ := c.def_ 0 h0
  have h : ∀ i : Nat, ∃ u : FuncData, ∀ d : DefD, fn[i]? = some d → FunD K d.name d.qual d.params d.body d.scope (d.dvs K) (d.kws K) (fAd K d.at_) u := fun i => by
    cases e : fn[i]? with
    | none => exact ⟨u0, fun d z => nomatch z⟩
    | some d =>
      obtain ⟨u, hu⟩ := c.def_ i e
      exact ⟨u, fun d' z => by
        cases z
        exact hu⟩
  exact ⟨fun i => Classical.choose (h i), fun i d e => Classical.choose_spec (h i) d e⟩
/-- what the walk asks of the written part and of the module's names -/
structure TxtB (fs : Fz) (fn : List DefD) (K : Fg) (mg : Str → Option Value) : Prop where
  c : SaysY fs fn K
  gl : ∀ x, (Fa.glo x).ok K = true → mg x = some (.ref (ga K x))
  fr : ∀ x, (Fa.free x).ok K = true → mg x = none
  nt : ∀ x i, (Fa.int x i).ok K = true → ∃ t, mg x = some (.int i t)
  tx : ∀ x z, (Fa.str x z).ok K = true → ∃ t, mg x = some (.str z t)
end Tw
namespace Tw
open PySem PySem.Spec PyProof.Rows L2 He
/-! ### errors of one field -/
/-- C.__init__ that stores one value -/
def spIni (C : Addr) (f : Str) : Sp := fun vs H Q _ => ∃ (a : Addr) (v : V), vs = [.ref a, v] ∧ H a = some (exo a C none) ∧ ∀ (d : Addr) (H' : Hp), H d = none → d ≠ a → H' a = some (exo a C (some d)) → H' d = some (exd d [(f, v)]) → But a H H' → Q .non H'
theorem bad_out {H : Hp} {C : Addr} {f : Str} {v : V} {Q : XK} {E : XK} (k : ∀ (d : Addr) (H' : Hp), Same H H' → H' d = some (.xd [(f, v)]) → Q (.ref C) (some d) H') :
    ([v] : List V).length ≤ 1000 ∧ ∀ a, H a = none → spIni C f (.ref a :: (([v] : List V) ++ [])) (upd H a (exo a C none)) (fun v H2 => v = .non ∧ ∃ (d : Addr) (fs : List (Str × V)), H2 a = some (exo a C (some d)) ∧ H2 d = some (exd d fs) ∧ H d = none ∧ Q (.ref C) (some d) (upd (del H2 a) d (.xd fs))) E := by
  refine ⟨(by show 1 ≤ 1000; decide), fun a ha => ⟨a, v, rfl, upd_same, fun d H' hd hda e1 e2 e3 => ?_⟩⟩
  rw [upd_ne hda] at hd
  refine ⟨rfl, d, _, e1, e2, hd, k d _ (fun b o hb => ?_) upd_same⟩
  have hba : b ≠ a := ne_of_none hb ha
  rw [upd_ne (ne_of_none hb hd), del_ne hba]
  exact e3 b o (by rw [upd_ne hba]; exact hb) hba
theorem same_but {H H1 H2 : Hp} {a : Addr} (s : Same H H1) (b : But a H1 H2) (h : H a = none) : Same H H2 := fun c o e => b c o (s c o e) (ne_of_none e h)
theorem same_made {H : Hp} {a dx : Addr} {o u : HO} (hd : H dx = none) (ha : H a = none) (hda : dx ≠ a) : Same H (upd (upd H dx o) a u) := (same_new hd).trans (same_new (by rw [upd_ne hda.symm]; exact ha))
theorem atI_gen {α : Type} {xs : List α} {i : Int} {v : α} (h0 : 0 ≤ i) (h : xs[i.toNat]? = some v) : atI xs i = some v := by
  have e : i = (i.toNat : Int) := (Int.toNat_of_nonneg h0).symm
  rw [e]
  exact atI_nat h
theorem dec_i {i j : Int} : decide (V.int i = V.int j) = decide (i = j) := by
  by_cases h : i = j
  · rw [h]
    simp
  · rw [decide_eq_false h, decide_eq_false fun z => h (V.int.inj z)]
theorem dec_s {i j : Str} : decide (V.str i = V.str j) = decide (i = j) := by
  by_cases h : i = j
  · rw [h]
    simp
  · rw [decide_eq_false h, decide_eq_false fun z => h (V.str.inj z)]
theorem inStrs (z : Str) : ∀ zs : List Str, inV (.str z) (zs.map V.str) = decide (z ∈ zs)
  | [] => rfl
  | y :: ys => by
    have ih := inStrs z ys
    unfold inV at ih ⊢
    rw [List.map_cons, List.any_cons, ih]
    show ((y == z) || _) = _
    by_cases h : y = z
    · subst h
      simp
    · rw [beq_eq_false_iff_ne.mpr h, Bool.false_or]
      exact decide_eq_decide.2 ⟨fun q => List.mem_cons_of_mem _ q, fun q => (List.mem_cons.mp q).resolve_left fun e => h e.symm⟩
theorem flatStrs : ∀ zs : List Str, (zs.map V.str).all flatV = true
  | [] => rfl
  | _ :: zs => by
    rw [List.map_cons, List.all_cons, flatStrs zs]
    rfl
end Tw
/-! Tw: own operators: x + y of one class, x * 3, 3 * x, -x, x += y. -/
namespace Tw
open PySem PySem.Spec PyProof.Rows L2 He
/-- the class at C answers to name by the def at f -/
structure OwnB (K : PySem.W.Frag) (C : Addr) (name : Str) (f : Addr) : Prop where
  self1 : PySem.W.selfFirst K C = true
  at_ : PySem.W.findIn K (.ref C) name = some (some (.ref f))
  fn : PySem.W.isFn K (.ref f) = true
def ownB (K : PySem.W.Frag) (x m : Str) : Bool := PySem.W.selfFirst K (ga K x) && (eqO (PySem.W.findIn K (.ref (ga K x)) m) (some (some (.ref (ma K (ga K x) m)))) && PySem.W.isFn K (.ref (ma K (ga K x) m)))
theorem ownB_ok {K : PySem.W.Frag} {x m : Str} (h : ownB K x m = true) : OwnB K (ga K x) m (ma K (ga K x) m) := by
  obtain ⟨h1, h⟩ := ba h
  obtain ⟨h2, h3⟩ := ba h
  exact ⟨h1, eqO_ok h2, h3⟩
section
variable {X : Cx} {CX : CXT} {k : Nat} {f C : Addr} {fd : FuncData} {ps : List Str} {sp : Sp} {E : XK} {op : Operator} {T : String}
/-- x op y, both of the class at C -/
def rBinOwn (C : Addr) (sp : Sp) (E : XK) : R2 := fun x y H Q => ∃ (a b dx dy : Addr) (fs gs : List (Str × V)), x = .ref a ∧ y = .ref b ∧ H a = some (.ins C dx fs) ∧ H b = some (.ins C dy gs) ∧ sp [x, y] H Q E
theorem op_binOwn (c : OwnB X.K C (PySem.dunder op.info.2) f) (F : FnOk X.prog X.w X.K X.mg X.base CX k f fd ps sp) (hr : Room k X.A) (hb : Binds X.K fd ps []) (hx : Passes CX X E) : OpR X (binaryOp op) (rBinOwn C sp E) := by
  intro pins s σ H x y v u Q I rx ry h
  obtain ⟨a, b, dx, dy, fs, gs, rfl, rfl, ea, eb, q⟩ := h
  cases (show v = Value.ref a from rx)
  cases (show u = Value.ref b from ry)
  obtain ⟨od, ox, J⟩ := inst_at I ea
  obtain ⟨od2, oy, J2⟩ := inst_at I eb
  obtain ⟨m, fr⟩ := I.fr
  refine PySem.W.binop_K fr I.ok.mod.kin J J2.type c.self1 c.at_ c.fn ?_
  refine wpAny_mono (run_fn (dvs := []) (ds := []) (us := [.ref a, .ref b]) (vs := [.ref a, .ref b]) F hr hb .nil hx I (.cons rfl (.cons rfl .nil)) q) (fun w s' z => ?_) fun _ _ x => x
  obtain ⟨z', H', I', rz, qz⟩ := z
  exact SlX.cmpback rz ⟨z', H', I', rz, qz⟩
/-- what is asked of a built-in class beside it -/
structure BinT (K : PySem.W.Frag) (C : Addr) (op : Operator) (T : String) : Prop where
  l : ∃ fo, PySem.W.findIn K (.type T) (PySem.dunder op.info.2) = some fo
  r : ∃ ro, PySem.W.findIn K (.type T) (PySem.dunderR op.info.2) = some ro
  sub : PySem.W.subIn K (.type T) (.ref C) = some false
  rc : ∃ rc, PySem.W.findIn K (.ref C) (PySem.dunderR op.info.2) = some rc ∧ (rc = none ∨ ∃ g : Addr, rc = some (.ref g))
def refOrNone : Option (Option Value) → Bool
  | some none => true
  | some (some (.ref _)) => true
  | _ => false
theorem refOrNone_ok {o : Option (Option Value)} (h : refOrNone o = true) : ∃ rc, o = some rc ∧ (rc = none ∨ ∃ g : Addr, rc = some (.ref g)) := by
  unfold refOrNone at h
  split at h
  · exact ⟨_, rfl, .inl rfl⟩
  · rename_i g
    exact ⟨_, rfl, .inr ⟨g, rfl⟩⟩
  · cases h
def binTB (K : PySem.W.Frag) (x : Str) (op : Operator) (T : String) : Bool := (PySem.W.findIn K (.type T) (PySem.dunder op.info.2)).isSome && ((PySem.W.findIn K (.type T) (PySem.dunderR op.info.2)).isSome && (decide (PySem.W.subIn K (.type T) (.ref (ga K x)) = some false) && refOrNone (PySem.W.findIn K (.ref (ga K x)) (PySem.dunderR op.info.2))))
theorem binTB_ok {K : PySem.W.Frag} {x : Str} {op : Operator} {T : String} (h : binTB K x op T = true) : BinT K (ga K x) op T := by
  obtain ⟨h1, h⟩ := ba h
  obtain ⟨h2, h⟩ := ba h
  obtain ⟨h3, h4⟩ := ba h
  exact ⟨Option.isSome_iff_exists.mp h1, Option.isSome_iff_exists.mp h2, of_decide_eq_true h3, refOrNone_ok h4⟩
/-- y is a value of the built-in class T -/
def ofT (H : Hp) (y : V) (T : String) : Prop := match y with
  | .int _ => T = "int"
  | .bl _ => T = "bool"
  | .str _ => T = "str"
  | _ => False
theorem ofT_type {H : Hp} {y : V} {u : Value} (r : RelV y u) (h : ofT H y T) : typeOf u = pure (.type T) := by
  cases y with
  | int i =>
    obtain ⟨t, rfl⟩ := r
    cases (show T = "int" from h)
    rfl
  | bl b =>
    cases (show u = Value.bool b from r)
    cases (show T = "bool" from h)
    rfl
  | str z =>
    obtain ⟨t, rfl⟩ := r
    cases (show T = "str" from h)
    rfl
  | _ => exact h.elim
/-- x op y, x of the class at C, y a number or a text -/
def rBinT (C : Addr) (T : String) (sp : Sp) (E : XK) : R2 := fun x y H Q => ∃ (a dx : Addr) (fs : List (Str × V)), x = .ref a ∧ H a = some (.ins C dx fs) ∧ ofT H y T ∧ sp [x, y] H Q E
theorem op_binT (c : OwnB X.K C (PySem.dunder op.info.2) f) (t : BinT X.K C op T) (F : FnOk X.prog X.w X.K X.mg X.base CX k f fd ps sp) (hr : Room k X.A) (hb : Binds X.K fd ps []) (hx : Passes CX X E) : OpR X (binaryOp op) (rBinT C T sp E) := by
  intro pins s σ H x y v u Q I rx ry h
  obtain ⟨a, dx, fs, rfl, ea, ht, q⟩ := h
  cases (show v = Value.ref a from rx)
  obtain ⟨od, ox, J⟩ := inst_at I ea
  obtain ⟨m, fr⟩ := I.fr
  obtain ⟨fo, h1⟩ := t.l
  obtain ⟨ro, h2⟩ := t.r
  obtain ⟨rc, h3, h4⟩ := t.rc
  refine PySem.W.ksp_binT fr I.ok.mod.kin J (ofT_type ry ht) c.self1 c.at_ c.fn h3 h4 h1 h2 t.sub ?_
  refine wpAny_mono (run_fn (dvs := []) (ds := []) (us := [.ref a, u]) (vs := [.ref a, y]) F hr hb .nil hx I (.cons rfl (.cons ry .nil)) q) (fun w s' z => ?_) fun _ _ x => x
  obtain ⟨z', H', I', rz, qz⟩ := z
  exact SlX.cmpback rz ⟨z', H', I', rz, qz⟩
/-- -x -/
def rNegOwn (C : Addr) (sp : Sp) (E : XK) : V → Hp → VK → Prop := fun x H Q => ∃ (a dx : Addr) (fs : List (Str × V)), x = .ref a ∧ H a = some (.ins C dx fs) ∧ sp [x] H Q E
theorem un_negOwn (c : OwnB X.K C "__neg__" f) (F : FnOk X.prog X.w X.K X.mg X.base CX k f fd ps sp) (hr : Room k X.A) (hb : Binds X.K fd ps []) (hx : Passes CX X E) : UnR X (unaryOp .USub) (rNegOwn C sp E) := by
  intro pins s σ H x v Q I rx h
  obtain ⟨a, dx, fs, rfl, ea, q⟩ := h
  cases (show v = Value.ref a from rx)
  obtain ⟨od, ox, J⟩ := inst_at I ea
  obtain ⟨m, fr⟩ := I.fr
  refine PySem.W.ksp_neg fr I.ok.mod.kin J c.at_ c.fn ?_
  exact run_fn (dvs := []) (ds := []) (us := [.ref a]) (vs := [.ref a]) F hr hb .nil hx I (.cons rfl .nil) q
/-- x op= y by an own in-place method -/
def rInOwn (C : Addr) (sp : Sp) (E : XK) : R2 := fun x y H Q => ∃ (a dx : Addr) (fs : List (Str × V)), x = .ref a ∧ H a = some (.ins C dx fs) ∧ sp [x, y] H Q E
theorem in_own (c : OwnB X.K C (PySem.dunderI op.info.2) f) (F : FnOk X.prog X.w X.K X.mg X.base CX k f fd ps sp) (hr : Room k X.A) (hb : Binds X.K fd ps []) (hx : Passes CX X E) : OpR X (inplaceOp op) (rInOwn C sp E) := by
  intro pins s σ H x y v u Q I rx ry h
  obtain ⟨a, dx, fs, rfl, ea, q⟩ := h
  cases (show v = Value.ref a from rx)
  obtain ⟨od, ox, J⟩ := inst_at I ea
  obtain ⟨m, fr⟩ := I.fr
  refine PySem.W.ksp_inplace fr I.ok.mod.kin J c.self1 c.at_ c.fn ?_
  refine wpAny_mono (run_fn (dvs := []) (ds := []) (us := [.ref a, u]) (vs := [.ref a, y]) F hr hb .nil hx I (.cons rfl (.cons ry .nil)) q) (fun w s' z => ?_) fun _ _ x => x
  obtain ⟨z', H', I', rz, qz⟩ := z
  exact SlX.cmpback rz ⟨z', H', I', rz, qz⟩
end
end Tw
namespace Tw
open PySem PySem.Spec PyProof.Rows L2 He
/-! ### a staticmethod called by its class -/
structure CSta (K : PySem.W.Frag) (C : Addr) (m : Str) (p g : Addr) : Prop where
  at_ : PySem.W.findCls K (.ref C) (.type "type") m = some (.get (.builtin "staticmethod.__get__") (.ref p) .none (.ref C))
  rc : ∃ rest, PySem.W.recIn K p "staticmethod" = some (.ref g :: rest)
  kp : PySem.W.keepIn K (.ref g) = true
/-- the def behind the record of C.m -/
def rcAt (K : PySem.W.Frag) (x m T : Str) : Addr := match PySem.W.recIn K (ma K (ga K x) m) T.toString with
  | some (.ref g :: _) => g
  | _ => 0
def cstaB (K : PySem.W.Frag) (x m : Str) : Bool := (match PySem.W.findCls K (.ref (ga K x)) (.type "type") m with
  | some (.get (.builtin b) (.ref p) .none (.ref C)) => decide (b = "staticmethod.__get__") && (decide (p = ma K (ga K x) m) && decide (C = ga K x))
  | _ => false) && ((match PySem.W.recIn K (ma K (ga K x) m) "staticmethod" with
  | some (.ref g :: _) => decide (g = rcAt K x m "staticmethod")
  | _ => false) && PySem.W.keepIn K (.ref (rcAt K x m "staticmethod")))
theorem cstaB_ok {K : PySem.W.Frag} {x m : Str} (h : cstaB K x m = true) : CSta K (ga K x) m (ma K (ga K x) m) (rcAt K x m "staticmethod") := by
  obtain ⟨h1, h⟩ := ba h
  obtain ⟨h2, h3⟩ := ba h
  refine ⟨?_, ?_, h3⟩
  · split at h1
    · rename_i b p C e
      obtain ⟨a1, a⟩ := ba h1
      obtain ⟨a2, a3⟩ := ba a
      rw [e, of_decide_eq_true a1, of_decide_eq_true a2, of_decide_eq_true a3]
    · cases h1
  · split at h2
    · rename_i g rest e
      exact ⟨rest, by rw [e, of_decide_eq_true h2]⟩
    · cases h2
section
variable {X : Cx} {CX : CXT} {k : Nat} {C p g : Addr} {fd : FuncData} {ps : List Str} {sp : Sp} {dvs : List V} {ds : List Value} {E : XK} {o e : Expr} {es : List Expr} {m : Str} {pos apos : Pos} {ta : TE} {t : TA} {pl : Sem Bool}
theorem typ_of {K : PySem.W.Frag} {mc : Value} (h : PySem.W.readsIn K C mc = true) : PySem.W.typeIn K (.ref C) = some mc := by
  simp only [PySem.W.readsIn, Bool.and_eq_true, beq_iff_eq] at h
  exact h.1.1.1.2
theorem pe_smeth (he : PE X o ta) (r : ClX.CRead X.K C (.type "type")) (c : CSta X.K C m p g) (F : FnOk X.prog X.w X.K X.mg X.base CX k g fd ps sp) (hr : Room k X.A) (hb : Binds X.K fd ps ds) (hd : Vals dvs ds) (hx : Passes CX X E) (ha : PA X (e :: es) t)
    (hst : starEach (e :: es) X.env = (false, eval e X.env) :: starEach es X.env := by rfl) (hpl : (backTo pos (starEach es X.env)).any (·.1) = false := by rfl)
    (ht : eval (.Call (.Attribute o m apos) (e :: es) [] pos) X.env = (do
      let ov ← eval o X.env
      standAt apos.atName
      let (f, first) ← holding [ov] (getMethod ov m pl)
      callWith pos f first (backTo pos (starEach (e :: es) X.env)) (backToKw pos (keywordEach [] X.env))) := by rfl) :
    PE X (.Call (.Attribute o m apos) (e :: es) [] pos) (fun σ H Q => ta σ H fun x H1 => x = .ref C ∧ t σ H1 fun vs H2 => sp (vs ++ dvs) H2 Q E) := by
  refine ⟨fun pins s σ H Q I h => ?_⟩
  refine PySem.W.methodCall_KW (pl := pl) (thn (he.run pins s σ H _ I h) fun u s1 ⟨x, H1, I1, rx, ex, q⟩ => ?_) ht
  subst ex
  obtain rfl : u = Value.ref C := rx
  obtain ⟨m', fr⟩ := I1.fr
  obtain ⟨rest, hp⟩ := c.rc
  refine PySem.W.method_cls I1.kIn r.ga (PySem.W.cls_sm fr I1.ok.mod.kin (typ_of r.rd) r.rd c.at_ hp rfl ?_)
  have I2 := I1.tok (s1.toks + 1)
  exact PySem.W.callWith_K (h₀ := X.base) I2.ok.mod.kin c.kp (thn (ha.run pos pins _ σ H1 _ I2 q) fun us s3 ⟨vs, H2, I3, rv, q2⟩ => ⟨I3.kIn, run_fn F hr hb hd hx I3 rv q2⟩) hst hpl
end
end Tw
/-! Tw: a staticmethod called within try; == of two lists of one and the same thing; slices and == within a comprehension. -/
namespace Tw
open PySem PySem.Spec PyProof.Rows L2 He
section
variable {X : Cx} {CX : CXT} {k : Nat} {C m' p g : Addr} {fd : FuncData} {ps : List Str} {sp : Sp} {E : L2.St → XK} {m : Str} {o e : Expr} {es : List Expr} {pos apos : Pos} {ta : TE} {t : TA}
theorem pe_smethS {pl : Sem Bool} (he : PE X o ta) (r : ClX.CRead X.K C (.type "type")) (c : CSta X.K C m p g) (F : FnOk X.prog X.w X.K X.mg X.base CX k g fd ps sp) (hr : Room k X.A) (hb : Binds X.K fd ps []) (hx : ∀ σ, PassesAt CX X σ (E σ)) (ha : PA X (e :: es) t)
    (hst : starEach (e :: es) X.env = (false, eval e X.env) :: starEach es X.env := by rfl) (hpl : (backTo pos (starEach es X.env)).any (·.1) = false := by rfl)
    (ht : eval (.Call (.Attribute o m apos) (e :: es) [] pos) X.env = (do
      let ov ← eval o X.env
      standAt apos.atName
      let (f, first) ← holding [ov] (getMethod ov m pl)
      callWith pos f first (backTo pos (starEach (e :: es) X.env)) (backToKw pos (keywordEach [] X.env))) := by rfl) :
    PE X (.Call (.Attribute o m apos) (e :: es) [] pos) (fun σ H Q => ta σ H fun x H1 => x = .ref C ∧ t σ H1 fun vs H2 => sp vs H2 Q (E σ)) := by
  refine ⟨fun pins s σ H Q I h => ?_⟩
  refine PySem.W.methodCall_KW (pl := pl) (thn (he.run pins s σ H _ I h) fun u s1 ⟨x, H1, I1, rx, ex, q⟩ => ?_) ht
  subst ex
  obtain rfl : u = Value.ref C := rx
  obtain ⟨m', fr⟩ := I1.fr
  obtain ⟨rest, hp⟩ := c.rc
  refine PySem.W.method_cls I1.kIn r.ga (PySem.W.cls_sm fr I1.ok.mod.kin (typ_of r.rd) r.rd c.at_ hp rfl ?_)
  have I2 := I1.tok (s1.toks + 1)
  exact PySem.W.callWith_K (h₀ := X.base) I2.ok.mod.kin c.kp (thn (ha.run pos pins _ σ H1 _ I2 q) fun us s3 ⟨vs, H2, I3, rv, q2⟩ => ⟨I3.kIn, L2.run_fnS F hr hb (hx σ) I3 rv q2⟩) hst hpl
end
section
variable {X : Cx}
/-- xs == ys: data, or two lists of one and the same object -/
def rEqSame (K : PySem.W.Frag) : R2 := fun x y H Q => rEqD K x y H Q ∨ ∃ a b c : Addr, x = .ref a ∧ y = .ref b ∧ H a = some (.lst [.ref c]) ∧ H b = some (.lst [.ref c]) ∧ Q (.bl true) H
theorem op_eqSame (hu : X.A.units + 64 < cLine) : OpR X (compareOp .Eq) (rEqSame X.K) := by
  intro pins s σ H x y v u Q I rx ry h
  rcases h with h | ⟨a, b, c, rfl, rfl, ha, hb, q⟩
  · exact op_eqD hu pins s σ H x y v u Q I rx ry h
  · obtain rfl : v = Value.ref a := rx
    obtain rfl : u = Value.ref b := ry
    obtain ⟨i1, r1, p1, _⟩ := I.list (SqL.of ha)
    obtain ⟨i2, r2, p2, _⟩ := I.list (SqL.of hb)
    obtain ⟨u1, rfl, e1⟩ := vals1 r1
    obtain ⟨u2, rfl, e2⟩ := vals1 r2
    cases (show u1 = Value.ref c from e1)
    cases (show u2 = Value.ref c from e2)
    refine SeqAt.eq_listAt (e := fun _ => true) p1.isList p2.isList rfl (by omega) (fun j h1 h2 => ?_) ?_
    · have e : j = 0 := by
        have : j < 1 := h1
        omega
      subst e
      exact SeqAt.EqAt.same _
    · exact ⟨.bl true, H, I, rfl, q⟩
end
theorem eqDK {X : Cx} (K : PySem.W.Frag) (hu : X.A.units + 64 < cLine) (h : X.K = K := by rfl) : OpR X (compareOp .Eq) (rEqD K) := by
  subst h
  exact op_eqD hu
/-- a[lo:hi] of a list, the new list in an abstract heap -/
def rSlN (K : PySem.W.Frag) : V → Option Int → Option Int → Hp → VK → Prop := fun x lo hi H Q => ∃ a xs, x = .ref a ∧ SqL K H a xs ∧ ∀ (p : Addr) (H' : Hp), H p = none → Same H H' → H' p = some (.lst (cutV xs lo hi)) → Q (.ref p) H'
theorem sl_listN {X : Cx} : SlR X (rSlN X.K) := by
  intro pins s σ H x v vl vu lo hi sl Q I rx hs pl pu h
  obtain ⟨a, xs, ex, hx, q⟩ := h
  exact sl_list pins s σ H x v vl vu lo hi sl Q I rx hs pl pu ⟨a, xs, ex, hx, fun p hp => q p _ hp (same_new hp) upd_same⟩
theorem slK {X : Cx} (K : PySem.W.Frag) (h : X.K = K := by rfl) : SlR X (rSlN K) := by
  subst h
  exact sl_listN
theorem But.free {p q : Addr} {H H' : Hp} (B : But p H H') (h : H' q = none) (hq : q ≠ p) : H q = none := by
  cases e : H q with
  | none => rfl
  | some o =>
    have z := B q o e hq
    rw [h] at z
    cases z
end Tw
/-! Tw: 3 * x, x of an own class. -/
namespace Tw
open PySem PySem.Spec PyProof.Rows L2 He
theorem int_mul_inst (a : Int) (t : Tok) (y : Addr) (ox : Obj) (hd : ox.data = .plain) :
    Meets (Builtin.«int.__mul__» ⟨[.int a t, .ref y], []⟩) (fun _ R s => s.heap.get? y = some ox ∧ R (.ok (.ret Value.notImplemented)) s) :=
  .of_wp fun prog w A R s h => by
    obtain ⟨hp, g, d, tk, os⟩ := s
    obtain ⟨hl, h⟩ := h
    obtain ⟨oc, od, dt, sl⟩ := ox
    cases hd
    wp_walk
    exact ⟨_, rfl, h⟩
theorem int_mul_dec {prog : Program} {w : World} {A : Around} {E : Value → Shared → Prop} {s : Shared} {a : Int} {t : Tok} {y : Addr} {oy : Obj} {Q : Value → Shared → Prop} (J : s.heap.get? y = some oy) (hd : oy.data = .plain) (h : Q .notImplemented s) :
    wpAny (model prog w) A (call (.builtin "int.__mul__") [.int a t, .ref y]) Q E s := by
  refine call_meets (T := "int") (name := PySem.dunder "mul") (id := "int.__mul__") (self := .int a t) (rest := [.ref y]) F.slot_int_mul (typeIs_int s a t) F.entry_int_mul (F.args_int_mul_2 (.int a t) (.ref y)) (int_mul_inst a t y oy hd) ?_
  exact ⟨J, h⟩
theorem int_try {prog : Program} {w : World} {A : Around} {E : Value → Shared → Prop} {s : Shared} {a : Int} {t : Tok} {y : Addr} (nm : Str) (sl : Slot "int" nm "int.__mul__")
    (h0 : wpAny (model prog w) A (call (.builtin "int.__mul__") [.int a t, .ref y]) (fun v s' => v = .notImplemented ∧ (none : Option Value) = none ∧ s' = s) E s) :
    wpAny (model prog w) A (tryMethod (.int a t) nm (.ref y)) (fun r s' => r = none ∧ s' = s) E s := by
  exact wpAny_tryMethod_declines (T := "int") (id := "int.__mul__") (Q := fun r s' => r = none ∧ s' = s) (typeIs_int s a t) sl h0
open PySem.W in
theorem bin_reflI {prog : Program} {w : World} {A : Around} {E : Value → Shared → Prop} {s : Shared} {K : Frag} {y C f f0 : Addr} {oy : Obj} {od : Option Obj} {a : Int} {t : Tok} {ro : Option Value} {Q : Value → Shared → Prop}
    (Y : K.In s.heap) (J : InstAt s.heap y oy C od) (hd : oy.data = .plain) (c : OwnB K C (PySem.dunderR "mul") f) (hm0 : findIn K (.ref C) (PySem.dunder "mul") = some (some (.ref f0)))
    (h2 : findIn K (.type "int") (PySem.dunderR "mul") = some ro) (hsub : subIn K (.ref C) (.type "int") = some false)
    (h : wpAny (model prog w) A (call (.ref f) [.ref y, .int a t]) (PySem.W.CmpBack Q) E s) : wpAny (model prog w) A (binaryOp .Mult (.int a t) (.ref y)) Q E s := by
  obtain ⟨cd, rest, hcd, hm⟩ := ksp_first c.self1
  have one := ksp_try Y J c.at_ c.fn h
  have dec : wpAny (model prog w) A (tryMethod (.int a t) (PySem.dunder "mul") (.ref y)) (fun r s' => r = none ∧ s' = s) E s := int_try (PySem.dunder "mul") F.slot_int_mul (int_mul_dec J.1 hd ⟨rfl, rfl, rfl⟩)
  obtain ⟨hh, g, d, tt, os⟩ := s
  have L1 : Looks (model prog w) hh (typeOf (.ref y)) (.ref C) := J.type
  have L2 : Looks (model prog w) hh (typeOf (.int a t)) (.type "int") := Looks.of_pure rfl
  have L3 : Looks (model prog w) hh (fillsNumberSlot (.ref C) "mul") true := fills_K Y hcd hm hm0
  have L4 : Looks (model prog w) hh (fillsNumberSlot (.type "int") "mul") true := Looks.of_pure F.fills_int_mul
  have L5 : Looks (model prog w) hh (isSubtype (.ref C) (.type "int")) false := looks_subIn Y hsub
  have L7 : Looks (model prog w) hh (numberSlotInPython (.type "int") "mul") false := Looks.of_pure rfl
  have hne : (Value.type "int" == Value.ref C) = false := Bool.eq_false_iff.mpr fun q => by cases beq_iff_eq.mp q
  have hi : Operator.Mult.info = ("*", "mul") := rfl
  simp only [binaryOp, hi]
  refine wpAny_holding (wpAny_bind ?_)
  unfold binaryOp1
  refine wpAny_bind (L2.at (wpAny_bind (L1.at (wpAny_bind (L4.at ?_)))))
  simp only [hne, Bool.false_eq_true, if_false]
  ksp_lk
  refine wpAny_mono dec (fun r s' hr' => ?_) fun _ _ e => e
  obtain ⟨rfl, rfl⟩ := hr'
  ksp_lk
  refine wpAny_mono one (fun r s' hr' => ?_) fun _ _ e => e
  obtain ⟨v, rfl, hq⟩ := hr'
  ksp_lk
  exact hq

section
variable {X : Cx} {CX : CXT} {k : Nat} {f C : Addr} {fd : FuncData} {ps : List Str} {sp : Sp} {E : XK}
/-- 3 * x -/
def rBinRI (C : Addr) (sp : Sp) (E : XK) : R2 := fun x y H Q => ∃ (i : Int) (a dx : Addr) (fs : List (Str × V)), x = .int i ∧ y = .ref a ∧ H a = some (.ins C dx fs) ∧ sp [y, x] H Q E
theorem op_binRI {f0 : Addr} (c : OwnB X.K C (PySem.dunderR "mul") f) (c0 : OwnB X.K C (PySem.dunder "mul") f0) (t : BinT X.K C .Mult "int") (hsub : PySem.W.subIn X.K (.ref C) (.type "int") = some false)
    (F : FnOk X.prog X.w X.K X.mg X.base CX k f fd ps sp) (hr : Room k X.A) (hb : Binds X.K fd ps []) (hx : Passes CX X E) : OpR X (binaryOp .Mult) (rBinRI C sp E) := by
  intro pins s σ H x y v u Q I rx ry h
  obtain ⟨i, a, dx, fs, rfl, rfl, ea, q⟩ := h
  cases (show u = Value.ref a from ry)
  obtain ⟨tk, rfl⟩ := rx
  obtain ⟨ox, od, J, hd⟩ := StX.insC_at I (C := C) (.inr ⟨dx, fs, ea⟩)
  obtain ⟨ro, h2⟩ := t.r
  refine bin_reflI I.kIn J hd c c0.at_ h2 hsub ?_
  refine wpAny_mono (run_fn (dvs := []) (ds := []) (us := [.ref a, .int i tk]) (vs := [.ref a, .int i]) F hr hb .nil hx I (.cons rfl (.cons ⟨tk, rfl⟩ .nil)) q) (fun w s' z => ?_) fun _ _ x => x
  obtain ⟨z', H', I', rz, qz⟩ := z
  exact SlX.cmpback rz ⟨z', H', I', rz, qz⟩
end
end Tw
/-! Tw: lambdas: a try whose clause knows how many names there are; the head's hook with tables of code objects. -/
namespace Tw
open PySem PySem.Spec PyProof.Rows L2 He
/-- what the clause wishes: its error stands tracked behind the suite -/
def wAsL (K : PySem.W.Frag) (c : Value) (i : Nat) (ts : Addr → Value → Option Addr → TS) (Wout : WX) (n : Nat) (D : Ends) : WX := fun cls d σ H => σ.length = n →
  ∃ (C : Addr) (b : Bool), cls = .ref C ∧ PySem.W.exmOne K cls c = some b ∧ (b = true → ∀ a, H a = none → ts a cls d { nx := fun σ' H' => D.nx (σ'.set i none) (upd H' a (exT a C d)), rt := D.rt, bk := fun σ' H' => D.bk (σ'.set i none) H', ct := fun σ' H' => D.ct (σ'.set i none) H' } (σ.set i (some (.ref a))) H) ∧
    (b = false → Wout cls d σ H)
section
variable {X : Cx} {x n : Str} {c : Value} {i : Nat} {body suite : List Stmt} {b₀ : Stmt} {np pos pos' : Pos} {tb : WX → TS} {ts : Addr → Value → Option Addr → TS} {Wout : WX}
theorem ps_tryL (hex : X.ex = []) (hs : X.stack = X.env :: X.outer) (hf : X.env.frame = some X.env.locals) (hN : X.N.Nodup) (hi : X.N[i]? = some n) (hln : X.env.kindOf n = some .local) (hc : Names X x c) (tk : Takes X Wout)
    (hb : ∀ (W : WX) (pn : List (Addr × Obj)) (xe : Value → Shared → Prop), Takes (X.tr pn xe) W → PassesOwn (model X.prog X.w) X.A X.env xe → PSs (X.tr pn xe) body (tb W))
    (hsu : ∀ (a : Addr) (oe : Obj) (cls : Value) (d : Option Addr) (pn : List (Addr × Obj)), Zc cls d oe → (∃ vs, oe.data = .fields vs) → PSs (X.suite a ((a, oe) :: pn)) (b₀ :: suite) (ts a cls d)) :
    PS X (.Try body [.ExceptHandler (some (.Name x np)) (some n) (b₀ :: suite) pos'] [] [] pos) (fun D σ H => tb (wAsL X.K c i ts Wout X.N.length D) D σ H) := by
  refine ⟨fun pins s σ H D I h => ?_⟩
  have ok := I.ok
  have hfr : X.A.frames = some (X.env :: X.outer) := by rw [ok.frames, hs]
  have hloc : Loc X.env.scope n := .inl hln
  refine wpAny_Try_except ?_
  refine wpAny_mono ((hb (wAsL X.K c i ts Wout X.N.length D) (X.pn ++ pins) (fun e s₁ => wpAny (model X.prog X.w) X.A (noteFrame e X.env) (fun _ s₂ => wpAny (model X.prog X.w) X.A (setFlight e none) (fun _ s₃ =>
    wpAny (model X.prog X.w) X.A (handleBy e X.env [.ExceptHandler (some (.Name x np)) (some n) (b₀ :: suite) pos']) (SP X pins D) X.xe s₃) X.xe s₂) X.xe s₁) (fun u s' xx => ?_) PassesOwn.looking).run [] s σ H D (I.toTry _) h) (fun f s1 hsp => ?_) (fun e s1 he => he)
  · obtain ⟨a, B, sI, pins', σ', H', cls, d, rfl, J', nb, up, sky, na, os, ag, hw⟩ := xx
    obtain ⟨C, b, hcls, hb1, hyes, hno⟩ := hw J'.len
    have J : Inv X pins σ' H' sI := J'.ofTry ok
    have sky' : Sky B (X.env :: X.outer) a (Zc cls d) X.env.locals s'.heap := by rw [← hs]; exact sky
    show wpAny (model X.prog X.w) X.A (noteFrame (.ref a) X.env) _ _ _
    refine Sky.land Zc.steady hfr hf sky' fun h3 fl3 up3 => ?_
    have J3 : Inv X pins σ' H' { s' with heap := h3 } := J.landed nb fl3.1 (up.trans up3) os ag
    obtain ⟨oe3, vs3, he3, hz3, hd3⟩ := fl3.there
    have notFr : ∀ {h : Heap} {o : Obj} {vs : Array Value}, h.FunFrames B (X.env :: X.outer) → h.get? a = some o → o.data = .fields vs → a ∉ frs (X.env :: X.outer) := fun {h o vs} ff e dd hm => by
      obtain ⟨_, o', e', hnf⟩ := ff.mem hm
      rw [e] at e'
      cases e'
      exact hnf _ dd
    have nfr := notFr fl3.2.2.1 he3 hd3
    have nL : a ≠ X.env.locals := fun z => nfr (List.mem_filterMap.mpr ⟨X.env, List.mem_cons_self, by rw [hf, z]⟩)
    have nF : a ∉ X.fs := fun hm => by
      obtain ⟨e, he, q⟩ := List.mem_filterMap.mp hm
      exact nfr (List.mem_filterMap.mpr ⟨e, List.mem_cons_of_mem _ he, q⟩)
    -- the error is new to this def
    have nI : sI.heap.get? a = none := by
      cases e : sI.heap.get? a with
      | none => rfl
      | some o =>
        have z := nb a o e (by rw [hs]; exact nfr)
        have z2 : B.get? a = none := fl3.2.1
        rw [z2] at z
        cases z
    have n0 : X.s_0.heap.get? a = none := by
      cases e : X.s_0.heap.get? a with
      | none => rfl
      | some o =>
        obtain ⟨o', z⟩ := J.base.there a o e (by rw [hex]; exact fun z => nomatch z)
        rw [nI] at z
        cases z
    have npin : ∀ p ∈ X.pn ++ pins, p.1 ≠ a := fun p hp z => by
      obtain ⟨e, _⟩ := J.pin p hp
      rw [z, nI] at e
      cases e
    have S3 := J3.suite he3 hd3 na nL nF
    refine wpAny_handleBy_cons (codeAny_handlers_test ?_) (by intro q; cases q)
    have LT : PySem.W.Looks (model X.prog X.w) h3 (typeOf (.ref a)) cls := fun A Q E s k q => wpAny_typeOf_ref (k _ _ he3) (by rw [hz3.1]; exact q)
    have LM := PySem.W.exm_one (M := model X.prog X.w) (J3.kIn) LT hb1
    have test : ∀ {Q : Value → Shared → Prop} {E : Value → Shared → Prop}, Q c { s' with heap := h3 } → wpAny (model X.prog X.w) (X.A.mark (some (.ref a))) (eval (.Name x np) X.env) Q E { s' with heap := h3 } := fun {Q E} q => by
      obtain ⟨hg, hdbg, hm | ⟨hm, hv, hnn⟩⟩ := hc
      · exact ld_glob (X := X.suite a ((a, oe3) :: (X.pn ++ pins))) S3 hg hm q hdbg
      · exact ld_blt (X := X.suite a ((a, oe3) :: (X.pn ++ pins))) S3 hg hm hv q hnn hdbg
    refine test (LM.here ?_)
    cases b with
    | true =>
      refine codeAny_handlers_suite_as ?_
      refine HandSPX.lands_againZ fl3 fun h4 fl4 up4 => ?_
      have J4 : Inv X pins σ' H' { s' with heap := h4 } := J.landed nb fl4.1 ((up.trans up3).trans up4) os ag
      obtain ⟨oe4, vs4, he4, hz4, hd4⟩ := fl4.there
      have S4 := J4.suite he4 hd4 na nL nF
      refine store_ok (X := X.suite a ((a, oe4) :: (X.pn ++ pins))) (v := .ref a) S4 hN hi hloc rfl (fun s5 S5 => ?_) (.inr hln)
      refine wpAny_mono ((hsu a oe4 cls d (X.pn ++ pins) hz4 ⟨_, hd4⟩).run [] s5 _ H' _ S5 (hyes rfl a na)) (fun f s6 hsp => ?_) (fun _ _ z => False.elim z)
      have end_ : ∀ {σ6 : L2.St} {H6 : Hp} {Q : Shared → Prop}, Inv (X.suite a ((a, oe4) :: (X.pn ++ pins))) [] σ6 H6 s6 → (∀ s7, Inv X ((a, oe4) :: pins) (σ6.set i none) H6 s7 → Q s7) →
          wpAny (model X.prog X.w) X.A (do bindName X.env n .none; unbindBehindTheSuite X.env n pos') (fun _ s7 => Q s7) X.xe s6 := fun {σ6 H6 Q} S6 hq => by
        have J6 : Inv X ((a, oe4) :: pins) σ6 H6 s6 := (S6.unsuite ok).pins_of fun p hp => S6.pin p (List.mem_append_left _ (by
          rcases List.mem_cons.mp hp with z | z
          · exact List.mem_cons.mpr (.inl z)
          · exact List.mem_cons_of_mem _ (List.mem_append_right _ z)))
        exact gone_ok J6 hN hi hln hq
      have drop : ∀ {σ7 : L2.St} {H7 : Hp} {s7 : Shared}, Inv X ((a, oe4) :: pins) σ7 H7 s7 → Inv X pins σ7 H7 s7 := fun J7 => J7.pins_of fun p hp => J7.pin p (List.mem_append_right _ (List.mem_cons_of_mem _ hp))
      subst hcls
      cases f with
      | next =>
        obtain ⟨σ6, H6, S6, q6⟩ := hsp
        exact end_ S6 fun s7 J7 => ⟨_, _, track J7 n0 npin hz4 hd4, q6⟩
      | brk =>
        obtain ⟨σ6, H6, S6, q6⟩ := hsp
        exact end_ S6 fun s7 J7 => ⟨_, _, drop J7, q6⟩
      | cont =>
        obtain ⟨σ6, H6, S6, q6⟩ := hsp
        exact end_ S6 fun s7 J7 => ⟨_, _, drop J7, q6⟩
      | ret u =>
        obtain ⟨v6, σ6, H6, S6, r6, q6⟩ := hsp
        exact end_ S6 fun s7 J7 => ⟨_, _, _, drop J7, r6, q6⟩
    | false =>
      show wpAny _ X.A (handleBy (.ref a) X.env []) _ _ _
      refine wpAny_handleBy_nil ?_
      obtain ⟨k1, k2, k3, oe, vs, T, oT, ts', he, hz, hd, h1, hr⟩ := id fl3
      unfold PySem.passOn
      refine wpAny_bind (wpAny_field he hd h1 ?_)
      rw [if_neg (show ¬ ((Value.ref T == Value.none) = true) from by simp)]
      have fin : wpAny (model X.prog X.w) X.A (setFlight (.ref a) X.env.frame) (fun _ s4 => wpAny (model X.prog X.w) X.A (throw (.ref a) : Sem Flow) (SP X pins D) X.xe s4) X.xe { s' with heap := h3 } := by
        rw [hf]
        refine HandSPX.setFlight_upZ fl3 fun h4 hh4 up4 => wpAny_throw (tk _ _ ?_)
        exact ⟨a, B, sI, pins, σ', H', cls, d, rfl, J, nb, (up.trans up3).trans up4, .inr (.inr (by rw [hs]; exact hh4)), na, os, ag, hno rfl⟩
      first
        | exact wpAny_bind (wpAny_pure (wpAny_bind fin))
        | exact wpAny_bind fin
  · cases f with
    | next =>
      obtain ⟨σ', H', J', q⟩ := hsp
      exact wpAny_execs_nil ⟨σ', H', J'.ofTry ok, q⟩
    | brk =>
      obtain ⟨σ', H', J', q⟩ := hsp
      exact ⟨σ', H', J'.ofTry ok, q⟩
    | cont =>
      obtain ⟨σ', H', J', q⟩ := hsp
      exact ⟨σ', H', J'.ofTry ok, q⟩
    | ret u =>
      obtain ⟨v, σ', H', J', r, q⟩ := hsp
      exact ⟨v, σ', H', J'.ofTry ok, r, q⟩
end

/-! ### the hook with empty tables of code objects -/
def codeAt (K : Fg) (f : Addr) : Addr := match K.lookup f with
  | some ⟨_, _, .func fd, _⟩ => (match fd.code with
    | .ref c => c
    | _ => 0)
  | _ => 0
def tabAt (K : Fg) (f : Addr) : Addr := match K.lookup (codeAt K f) with
  | some ⟨_, _, .fields vs, _⟩ => (match (vs[11]? : Option Value) with
    | some (.ref P) => P
    | _ => 0)
  | _ => 0
def isTab : Option Obj → Bool
  | some ⟨.none, none, .fields vs, sl⟩ => vs.isEmpty && sl.isEmpty
  | _ => false
theorem isTab_ok {o : Option Obj} (h : isTab o = true) : o = some { cls := .none, data := .fields #[] } := by
  unfold isTab at h
  split at h
  · rename_i vs sl
    obtain ⟨h1, h2⟩ := ba h
    have e1 : vs = #[] := by simpa using h1
    have e2 : sl = #[] := by simpa using h2
    rw [e1, e2]
  · cases h
/-- the def at f: its code object and the table of it -/
def tabB (K : Fg) (f : Addr) : Bool := PySem.W.codeHdIn K (codeAt K f) (tabAt K f) && (K.lookup (tabAt K f)).isNone
abbrev AlL : Type := AlD × List Bool
def obsL (n : Nat) (fs : Fz) (fn : List DefD) (ls : List (Fg → Addr)) (g : Addr → Option Obj) : AlL := (obsYG n fs fn g, ls.map fun f => isTab (g (tabAt (frG g (asD g n)) (f (frG g (asD g n))))))
def hookL (n : Nat) (fs : Fz) (fn : List DefD) (ls : List (Fg → Addr)) : PySem.W.Hook where
  α := AlL
  obs := fun s => obsL n fs fn ls s.heap.get?
  val := fun _ => (valD fn, ls.map fun _ => true)
  says := fun _ h => ∃ K : Fg, K.In h ∧ SaysY fs fn K ∧ ∀ f ∈ ls, isTab (h.get? (tabAt K (f K))) = true
  of := fun _ s e => ⟨_, frG_in, congrArg (fun z : AlL => z.1) e, fun f hf => List.map_inj_left.mp (congrArg (fun z : AlL => z.2) e) f hf⟩
  keeps := fun _ _ _ ⟨K, hK, c, t⟩ k => ⟨K, PySem.W.Frag.In.keeps hK k, c, fun f hf => by
    have e := isTab_ok (t f hf)
    rw [k _ _ e]
    rfl⟩
theorem obsL_eq {n : Nat} {fs : Fz} {fn : List DefD} {ls : List (Fg → Addr)} {g : Addr → Option Obj} {s : Shared} (h : ∀ a, g a = s.heap.get? a) : obsL n fs fn ls g = (hookL n fs fn ls).obs s := by
  have e : g = s.heap.get? := funext h
  rw [e] <;> rfl

/-! ### x[i] = v by an own __setitem__ -/
section
variable {X : Cx} {CX : CXT} {k : Nat} {f C : Addr} {fd : FuncData} {ps : List Str} {sp : Sp} {E : XK}
def setOwn (C : Addr) (sp : Sp) (E : XK) : V → V → V → Hp → (Hp → Prop) → Prop := fun o i v H Q => ∃ (a dx : Addr) (fs : List (Str × V)), o = .ref a ∧ H a = some (.ins C dx fs) ∧ sp [o, i, v] H (fun _ H' => Q H') E
theorem pset_own (hq : PySem.W.noSeq X.K C = true) (hs : PySem.W.findIn X.K (.ref C) "__setitem__" = some (some (.ref f))) (hf : PySem.W.isFn X.K (.ref f) = true) (F : FnOk X.prog X.w X.K X.mg X.base CX k f fd ps sp) (hr : Room k X.A) (hb : Binds X.K fd ps []) (hx : Passes CX X E) : PSet X (setOwn C sp E) := by
  intro pins s σ H o i v ov iv u Q I ro ri rv h
  obtain ⟨a, dx, fs, rfl, ea, q⟩ := h
  cases (show ov = Value.ref a from ro)
  obtain ⟨od, ox, J⟩ := inst_at I ea
  obtain ⟨m, fr⟩ := I.fr
  refine PySem.W.ksp_setItem fr I.ok.mod.kin J hq hs hf ?_
  refine wpAny_mono (run_fn (dvs := []) (ds := []) (us := [.ref a, iv, u]) (vs := [.ref a, i, v]) F hr hb .nil hx I (.cons rfl (.cons ri (.cons rv .nil))) q) (fun w s' z => ?_) fun _ _ x => x
  obtain ⟨z', H', I', rz, qz⟩ := z
  exact ⟨H', I', qz⟩
end
end Tw
/-! Tw: the head's hook with defs at any address (methods behind staticmethod, classmethod, property). -/
namespace Tw
open PySem PySem.Spec PyProof.Rows L2 He
abbrev DefA := He5.DefA
abbrev AlA : Type := (Bool × List FnW) × List (Option (List (Option (Str × Int))))
def obsA (fs : Fz) (fn : List DefA) (ts : List Tab) (K : Fg) : AlA := (((fs.all fun f => f K) && fn.all fun d => d.ok K, fn.map fun d => He5.fnA K (d.at_ K)), ts.map fun t => dicW K (t.1 K))
def valA (fn : List DefA) (ts : List Tab) (w : World) : AlA := ((true, fn.map He5.DefA.val), ts.map fun t => some (keysIn w.params t.2))
def obsAG (n : Nat) (fs : Fz) (fn : List DefA) (ts : List Tab) (g : Addr → Option Obj) : AlA := obsA fs fn ts (frG g (asD g n ++ [cStatics]))
def SaysA (fs : Fz) (fn : List DefA) (ts : List Tab) (w : World) (K : Fg) : Prop := obsA fs fn ts K = valA fn ts w
def hookA (n : Nat) (fs : Fz) (fn : List DefA) (ts : List Tab) : PySem.W.Hook where
  α := AlA
  obs := fun s => obsAG n fs fn ts s.heap.get?
  val := fun w => valA fn ts w
  says := fun w h => ∃ K : Fg, K.In h ∧ SaysA fs fn ts w K
  of := fun _ _ e => ⟨_, frG_in, e⟩
  keeps := fun _ _ _ ⟨K, hK, c⟩ k => ⟨K, PySem.W.Frag.In.keeps hK k, c⟩
theorem obsAG_eq {n : Nat} {fs : Fz} {fn : List DefA} {ts : List Tab} {g : Addr → Option Obj} {s : Shared} (h : ∀ a, g a = s.heap.get? a) : obsAG n fs fn ts g = (hookA n fs fn ts).obs s := by
  have e : g = s.heap.get? := funext h
  rw [e] <;> rfl
abbrev DefsA (fn : List DefA) (K : Fg) (fd : Nat → FuncData) : Prop := ∀ (i : Nat) (d : DefA), fn[i]? = some d → FunD K d.name d.qual d.params d.body d.scope (d.dvs K) (d.kws K) (d.at_ K) (fd i)
section
variable {fs : Fz} {fn : List DefA} {ts : List Tab} {w : World} {K : Fg}
theorem SaysA.fact (c : SaysA fs fn ts w K) (i : Nat) {f : Fg → Bool} (h : fs[i]? = some f) : f K = true := by
  have c1 := (ba (show ((fs.all fun f => f K) && fn.all fun d => d.ok K) = true from congrArg (fun z : AlA => z.1.1) c)).1
  exact List.all_eq_true.mp c1 f (List.mem_of_getElem? h)
theorem SaysA.def_ (c : SaysA fs fn ts w K) (i : Nat) {d : DefA} (h : fn[i]? = some d) : ∃ fd, FunD K d.name d.qual d.params d.body d.scope (d.dvs K) (d.kws K) (d.at_ K) fd := by
  have c2 := (ba (show ((fs.all fun f => f K) && fn.all fun d => d.ok K) = true from congrArg (fun z : AlA => z.1.1) c)).2
  have e : fn.map (fun d => He5.fnA K (d.at_ K)) = fn.map He5.DefA.val := congrArg (fun z : AlA => z.1.2) c
  have e2 : (fn.map fun d => He5.fnA K (d.at_ K))[i]? = (fn.map He5.DefA.val)[i]? := by rw [e]
  rw [List.getElem?_map, List.getElem?_map, h] at e2
  exact He5.DefA.funD (Option.some.inj e2) (List.all_eq_true.mp c2 d (List.mem_of_getElem? h))
theorem SaysA.tab (c : SaysA fs fn ts w K) (i : Nat) {t : Tab} (h : ts[i]? = some t) : ∃ es n, KDict K w (t.1 K) es n := by
  have e : ts.map (fun t => dicW K (t.1 K)) = ts.map fun t => some (keysIn w.params t.2) := congrArg (fun z : AlA => z.2) c
  have e2 : (ts.map fun t => dicW K (t.1 K))[i]? = (ts.map fun t => some (keysIn w.params t.2))[i]? := by rw [e]
  rw [List.getElem?_map, List.getElem?_map, h] at e2
  exact dicW_ok (Option.some.inj e2)
theorem SaysA.defs (c : SaysA fs fn ts w K) {d0 : DefA} (h0 : fn[0]? = some d0) : ∃ fd : Nat → FuncData, DefsA fn K fd := by
  obtain ⟨u0, _⟩ := c.def_ 0 h0
  have h : ∀ i : Nat, ∃ u : FuncData, ∀ d : DefA, fn[i]? = some d → FunD K d.name d.qual d.params d.body d.scope (d.dvs K) (d.kws K) (d.at_ K) u := fun i => by
    cases e : fn[i]? with
    | none => exact ⟨u0, fun d z => nomatch z⟩
    | some d =>
      obtain ⟨u, hu⟩ := c.def_ i e
      exact ⟨u, fun d' z => by
        cases z
        exact hu⟩
  exact ⟨fun i => Classical.choose (h i), fun i d e => Classical.choose_spec (h i) d e⟩
end
/-- what the walk asks of the written part and of the module's names -/
structure TxtA (fs : Fz) (fn : List DefA) (ts : List Tab) (w : World) (K : Fg) (mg : Str → Option Value) : Prop where
  c : SaysA fs fn ts w K
  gl : ∀ x, (Fa.glo x).ok K = true → mg x = some (.ref (ga K x))
  fr : ∀ x, (Fa.free x).ok K = true → mg x = none
  nt : ∀ x i, (Fa.int x i).ok K = true → ∃ t, mg x = some (.int i t)
  tx : ∀ x z, (Fa.str x z).ok K = true → ∃ t, mg x = some (.str z t)
theorem TxtA.fact {fs : Fz} {fn : List DefA} {ts : List Tab} {w : World} {K : Fg} {mg : Str → Option Value} (T : TxtA fs fn ts w K mg) (i : Nat) {f : Fg → Bool} (h : fs[i]? = some f := by rfl) : f K = true := T.c.fact i h
end Tw
/-! Tw: the head's hook for laws with lambdas: defs at any address, the tables of code objects left out of the fragment and told empty. -/
namespace Tw
open PySem PySem.Spec PyProof.Rows L2 He
def obsZ (fs : Fz) (fn : List DefA) (K : Fg) : AlD := ((fs.all fun f => f K) && fn.all fun d => d.ok K, fn.map fun d => He5.fnA K (d.at_ K))
def valZ (fn : List DefA) : AlD := (true, fn.map He5.DefA.val)
def SaysZ (fs : Fz) (fn : List DefA) (K : Fg) : Prop := obsZ fs fn K = valZ fn
section
variable {fs : Fz} {fn : List DefA} {K : Fg}
theorem SaysZ.fact (c : SaysZ fs fn K) (i : Nat) {f : Fg → Bool} (h : fs[i]? = some f := by rfl) : f K = true := by
  obtain ⟨c1, _⟩ := ba (congrArg (fun z : AlD => z.1) (show obsZ fs fn K = valZ fn from c))
  exact of_all (f := fun f : Fg → Bool => f K) c1 (List.mem_of_getElem? h)
theorem SaysZ.def_ (c : SaysZ fs fn K) (i : Nat) {d : DefA} (h : fn[i]? = some d) : ∃ fd, FunD K d.name d.qual d.params d.body d.scope (d.dvs K) (d.kws K) (d.at_ K) fd := by
  obtain ⟨_, c2⟩ := ba (congrArg (fun z : AlD => z.1) (show obsZ fs fn K = valZ fn from c))
  have e2 : fn.map (fun d => He5.fnA K (d.at_ K)) = fn.map He5.DefA.val := congrArg (fun z : AlD => z.2) c
  have e3 := congrArg (fun l : List FnW => l[i]?) e2
  simp only [List.getElem?_map, h, Option.map_some] at e3
  exact He5.DefA.funD (Option.some.inj e3) (of_all (f := fun d : DefA => d.ok K) c2 (List.mem_of_getElem? h))
theorem SaysZ.defs (c : SaysZ fs fn K) {d0 : DefA} (h0 : fn[0]? = some d0) : ∃ fd : Nat → FuncData, DefsA fn K fd := by
  obtain ⟨u0, _⟩ := c.def_ 0 h0
  have h : ∀ i : Nat, ∃ u : FuncData, ∀ d : DefA, fn[i]? = some d → FunD K d.name d.qual d.params d.body d.scope (d.dvs K) (d.kws K) (d.at_ K) u := fun i => by
    by_cases hi : ∃ d, fn[i]? = some d
    · obtain ⟨d, hd⟩ := hi
      obtain ⟨u, hu⟩ := c.def_ i hd
      refine ⟨u, fun d' z => ?_⟩
      rw [hd] at z
      rw [← Option.some.inj z]
      exact hu
    · exact ⟨u0, fun d z => absurd ⟨d, z⟩ hi⟩
  obtain ⟨fd, hf⟩ := Classical.axiomOfChoice h
  exact ⟨fd, fun i d e => hf i d e⟩
end
/-- the written part without the tables of these defs -/
def frZ (n : Nat) (ls : List (Fg → Addr)) (g : Addr → Option Obj) : Fg := frG g ((asD g n ++ [cStatics]).filter fun a => !((ls.map fun f => tabAt (frG g (asD g n)) (f (frG g (asD g n)))).contains a))
def obsZG (n : Nat) (fs : Fz) (fn : List DefA) (ls : List (Fg → Addr)) (g : Addr → Option Obj) : AlL := (obsZ fs fn (frZ n ls g), ls.map fun f => isTab (g (tabAt (frZ n ls g) (f (frZ n ls g)))))
def hookZ (n : Nat) (fs : Fz) (fn : List DefA) (ls : List (Fg → Addr)) : PySem.W.Hook where
  α := AlL
  obs := fun s => obsZG n fs fn ls s.heap.get?
  val := fun _ => (valZ fn, ls.map fun _ => true)
  says := fun _ h => ∃ K : Fg, K.In h ∧ SaysZ fs fn K ∧ ∀ f ∈ ls, isTab (h.get? (tabAt K (f K))) = true
  of := fun _ s e => by
    have e2 : (ls.map fun f => isTab (s.heap.get? (tabAt (frZ n ls s.heap.get?) (f (frZ n ls s.heap.get?))))) = ls.map fun _ => true := congrArg (fun z : AlL => z.2) e
    exact ⟨_, frG_in, congrArg (fun z : AlL => z.1) e, fun f hf => List.map_inj_left.mp e2 f hf⟩
  keeps := fun _ _ _ ⟨K, hK, c, t⟩ k => ⟨K, PySem.W.Frag.In.keeps hK k, c, fun f hf => by
    rw [k _ _ (isTab_ok (t f hf))]
    rfl⟩
theorem obsZG_eq {n : Nat} {fs : Fz} {fn : List DefA} {ls : List (Fg → Addr)} {g : Addr → Option Obj} {s : Shared} (h : ∀ a, g a = s.heap.get? a) : obsZG n fs fn ls g = (hookZ n fs fn ls).obs s := by
  rw [show g = s.heap.get? from funext h]
  rfl
/-- what the walk asks of the written part and of the module's names -/
structure TxtZ (fs : Fz) (fn : List DefA) (K : Fg) (mg : Str → Option Value) : Prop where
  c : SaysZ fs fn K
  gl : ∀ x, (Fa.glo x).ok K = true → mg x = some (.ref (ga K x))
  fr : ∀ x, (Fa.free x).ok K = true → mg x = none
  nt : ∀ x i, (Fa.int x i).ok K = true → ∃ t, mg x = some (.int i t)
  tx : ∀ x z, (Fa.str x z).ok K = true → ∃ t, mg x = some (.str z t)
theorem txtZ {fs : Fz} {fn : List DefA} {K : Fg} {h : Heap} {mg : Str → Option Value} (X : K.In h) (G : h.Ns mainGlobals mg) (c : SaysZ fs fn K) : TxtZ fs fn K mg :=
  ⟨c, fun x hx => He.glo_ok X G hx, fun x hx => He.free_ok X G hx, fun x i hx => He.int_ok X G hx, fun x z hx => He.str_ok X G hx⟩
theorem TxtZ.fact {fs : Fz} {fn : List DefA} {K : Fg} {mg : Str → Option Value} (T : TxtZ fs fn K mg) (i : Nat) {f : Fg → Bool} (h : fs[i]? = some f := by rfl) : f K = true := T.c.fact i h
/-- the code objects and tables of the defs that make lambdas -/
def csZ (ls : List (Fg → Addr)) (K : Fg) : List (Addr × Addr) := ls.map fun f => (Tw.codeAt K (f K), tabAt K (f K))
end Tw
/-! Tw: a lambda as a value (tracked), and sorted(xs, key=lambda x: x.field). -/
namespace Tw
open PySem PySem.Spec PyProof.Rows L2 He LamX
/-- the function object of a lambda stands at f -/
def FunO (f : Addr) (q : Str) (ps : Arguments) (e : Expr) (sc : Scope) (cl : List (Str × Addr)) (c' : Addr) : HO := .ext fun h => ∃ pm ctv : Value, h.get? f = some (PySem.W.kla_obj "<lambda>" q ps e sc cl pm c' ctv)
theorem funO_ne {f c' : Addr} {q : Str} {ps : Arguments} {e : Expr} {sc : Scope} {cl : List (Str × Addr)} (xs : Array Value) : FunO f q ps e sc cl c' ≠ .tbl xs := fun z => by
  unfold FunO at z
  cases z
section
variable {X : Cx} {pins : List (Addr × Obj)} {σ : L2.St} {H : Hp} {s : Shared}
theorem funO_laid {h' : Heap} {tk : Nat} {q : Str} {ps : Arguments} {e : Expr} {sc : Scope} {cl : List (Str × Addr)} {pm ctv : Value} {c' : Addr} (I : Inv X pins σ H s) (k : ∀ b o, s.heap.get? b = some o → h'.get? b = some o) (hp : s.heap.objs.size ≤ h'.objs.size) :
    Inv X pins σ (upd H h'.objs.size (FunO h'.objs.size q ps e sc cl c')) { s with heap := h'.push (PySem.W.kla_obj "<lambda>" q ps e sc cl pm c' ctv), toks := tk } := by
  have hz : (h'.push (PySem.W.kla_obj "<lambda>" q ps e sc cl pm c' ctv)).get? h'.objs.size = some (PySem.W.kla_obj "<lambda>" q ps e sc cl pm c' ctv) := Heap.get?_push_size _ rfl
  refine I.laid (fun b o z => Heap.get?_push_of_some _ (k b o z)) hp ?_
  exact ⟨⟨pm, ctv, hz⟩, ⟨_, hz⟩, fun h1 h2 ⟨pm, ctv, z⟩ st => ⟨pm, ctv, st _ z⟩⟩
/-- a lambda is made: its function object tracked -/
theorem lam_laid {T : List (Addr × Str)} {c P : Addr} {ps : Arguments} {e : Expr} {sc : Scope} {pos : Pos} {E : Value → Shared → Prop} {Q : Value → Shared → Prop} (I : Inv X pins σ H s) (TB : TabB X.base X.mg c P) (hcode : X.env.code = .ref c)
    (hm : (P, X.env.qual ++ "<lambda>") ∈ T) (hu : ∀ p ∈ T, p.1 = P → p.2 = X.env.qual ++ "<lambda>") (hT : Tabs T H) (hdef : defaultsOf ps X.env = ([], [])) (hfree : ∀ y ∈ sc.names, y.2 = .free → ∃ c, X.env.cells.lookup y.1 = some c)
    (h : ∀ (f c' : Addr) (H1 : Hp) (s' : Shared), Inv X pins σ H1 s' → ExtN H H1 → Tabs T H1 → H f = none → H1 f = some (FunO f (X.env.qual ++ "<lambda>") ps e sc (cloFrom X.env.cells sc.names []) c') → H1 c' = some (CodeO c' (X.env.qual ++ "<lambda>")) → Q (.ref f) s') :
    wpAny (model X.prog X.w) X.A (eval (.Lambda ps e sc pos) X.env) Q E s := by
  obtain ⟨tb, hP, ht, ha⟩ := hT _ hm
  have bP : s.heap.BuiltinsAt X.mg P := TB.bm.keeps I.bk
  have hP' := I.hok P _ hP
  have gl : s.heap.Ns mainGlobals X.mg := I.mod.glob.keeps I.bk
  have fin : ∀ {f c' : Addr} {H1 : Hp} {o : HO}, H1 f = none → ExtN H H1 → Tabs T H1 → ExtN H (upd H1 f o) ∧ Tabs T (upd H1 f o) := fun {f c' H1 o} n e t =>
    ⟨e.trans (ExtN.of (same_new n)), t.ext (same_new n)⟩
  refine PySem.W.kla_eval hdef ?_
  cases hc : codeAmong pos tb.toList with
  | none =>
    refine PySem.W.kla_makeFunction (c := c) (P := P) (ps := tb) (closure_ok hfree) I.ok.glob
      gl hcode (TB.code.keeps I.bk) hP' ht hc TB.gP bP fun c' ctv h' tk hx hge hlt hrec htb => ?_
    obtain ⟨c2, oc, vs, t, e2, hoc, hd, hv⟩ := hrec
    cases e2
    have nC : H c' = none := I.hok.fresh hge
    have nP : P ≠ c' := ne_of_none hP nC
    have I1 := inv_table (t' := tk) (more := #[rawInt pos.line, rawInt pos.col, .ref c']) I hP hx htb hge
      ⟨oc, vs, t, hoc, hd, hv⟩
    generalize hH1 : upd (upd H P (.tbl (tb ++ #[rawInt pos.line, rawInt pos.col, .ref c']))) c' (CodeO c' (X.env.qual ++ "<lambda>")) = H1 at I1
    have hE : ExtN H H1 := fun b o z n => by
      have n1 : b ≠ P := fun y => n tb (Option.some.inj (z.symm.trans (by rw [y]; exact hP)))
      rw [← hH1, upd_ne (ne_of_none z nC), upd_ne n1]
      exact z
    have atC : H1 c' = some (CodeO c' (X.env.qual ++ "<lambda>")) := by rw [← hH1, upd_same]
    have atP : H1 P = some (.tbl (tb ++ #[rawInt pos.line, rawInt pos.col, .ref c'])) := by rw [← hH1, upd_ne nP, upd_same]
    have eL : (tb ++ #[rawInt pos.line, rawInt pos.col, .ref c']).toList = tb.toList ++ [rawInt pos.line, rawInt pos.col, .ref c'] := by simp
    have T1 : Tabs T H1 := fun p hp => by
      by_cases hb : p.1 = P
      · rw [hu p hp hb, hb]
        refine ⟨_, atP, by rw [eL]; exact PySem.TriplesOk_snoc _ _ _ _ ht, fun p' cv z => ?_⟩
        rw [eL] at z
        rcases among_app _ ht z with y | y
        · obtain ⟨c0, z1, z2⟩ := ha p' cv y
          exact ⟨c0, z1, hE _ _ z2 codeO_ne⟩
        · exact ⟨c', y, atC⟩
      · obtain ⟨tb', a1, a2, a3⟩ := hT p hp
        refine ⟨tb', ?_, a2, fun p' cv z => ?_⟩
        · rw [← hH1, upd_ne (ne_of_none a1 nC), upd_ne hb]
          exact a1
        · obtain ⟨c0, z1, z2⟩ := a3 p' cv z
          exact ⟨c0, z1, hE _ _ z2 codeO_ne⟩
    have nf : H1 h'.objs.size = none := I1.hok.fresh (Nat.le_refl _)
    obtain ⟨f1, f2⟩ := fin (c' := c') (o := FunO h'.objs.size (X.env.qual ++ "<lambda>") ps e sc (cloFrom X.env.cells sc.names []) c') nf hE T1
    refine h h'.objs.size c' _ _ (funO_laid (s := { s with heap := h', toks := tk }) (tk := tk) I1 (fun _ _ z => z) (Nat.le_refl _)) f1 f2 (I.hok.fresh (Nat.le_trans hge (Nat.le_of_lt hlt))) upd_same ?_
    rw [upd_ne (Nat.ne_of_lt hlt)]
    exact atC
  | some cv =>
    obtain ⟨c', e', hco⟩ := ha pos cv hc
    subst e'
    refine PySem.W.kla_makeFunctionHit (c := c) (P := P) (ps := tb) (closure_ok hfree) I.ok.glob
      gl hcode (TB.code.keeps I.bk) hP' ht hc bP fun ctv h' tk hx hsz => ?_
    have nf : H h'.objs.size = none := I.hok.fresh hsz
    obtain ⟨f1, f2⟩ := fin (c' := c') (o := FunO h'.objs.size (X.env.qual ++ "<lambda>") ps e sc (cloFrom X.env.cells sc.names []) c') nf (ExtN.refl H) hT
    refine h h'.objs.size c' _ _ (funO_laid I hx hsz) f1 f2 nf upd_same ?_
    rw [upd_ne (ne_of_none hco nf)]
    exact hco
/-- what is said of a lambda made -/
def tLamV (T : List (Addr × Str)) (q : Str) (ps : Arguments) (e : Expr) (sc : Scope) (cl : List (Str × Addr)) : TE := fun _ H Q => Tabs T H ∧ ∀ (f c' : Addr) (H1 : Hp), ExtN H H1 → Tabs T H1 → H f = none → H1 f = some (FunO f q ps e sc cl c') → H1 c' = some (CodeO c' q) → Q (.ref f) H1
theorem pe_lambda {T : List (Addr × Str)} {c P : Addr} {ps : Arguments} {e : Expr} {sc : Scope} {pos : Pos} (TB : TabB X.base X.mg c P) (hcode : X.env.code = .ref c)
    (hm : (P, X.env.qual ++ "<lambda>") ∈ T) (hu : ∀ p ∈ T, p.1 = P → p.2 = X.env.qual ++ "<lambda>") (hdef : defaultsOf ps X.env = ([], [])) (hfree : ∀ y ∈ sc.names, y.2 = .free → X.env.scope.names.lookup y.1 = some .cell ∨ X.env.scope.names.lookup y.1 = some .free) :
    PE X (.Lambda ps e sc pos) (tLamV T (X.env.qual ++ "<lambda>") ps e sc (cloFrom X.env.cells sc.names [])) := by
  refine ⟨fun pins s σ H Q I h => ?_⟩
  obtain ⟨hT, h⟩ := h
  refine lam_laid I TB hcode hm hu hT hdef (fun y hy z => (hfree y hy z).elim (fun k => I.ok.has _ (.inl k)) fun k => I.ok.has _ (.inr k)) fun f c' H1 s' I1 e1 t1 n1 f1 c1 => ?_
  exact ⟨.ref f, H1, I1, rfl, h f c' H1 e1 t1 n1 f1 c1⟩
/-- a lambda's parameter and its body: x.fld -/
structure KeyL (sc : Scope) (x : Str) : Prop where
  kind : sc.kind = .function
  co : sc.isCoroutine = false
  gen : sc.isGenerator = false
  own : ∀ y ∈ sc.names, y.2 ≠ .cell
  loc : sc.names.lookup x = some .local
  clo : cloFrom [] sc.names [] = []
theorem key_call {f c' a C dx : Addr} {q x fld : Str} {ps : Arguments} {sc : Scope} {p1 p2 : Pos} {fs : List (Str × V)} {k : Int} {A : Around} (I : Inv X pins σ H s) (hf : H f = some (FunO f q ps (.Attribute (.Name x p1) fld p2) sc [] c')) (hc : H c' = some (CodeO c' q)) (L : KeyL sc x) (hd : A.depth < recursionLimit)
    (hbind : ∀ pm cv ctv u, bindArgs (PySem.W.kla_fn "<lambda>" q ps (.Attribute (.Name x p1) fld p2) sc [] pm cv ctv) ⟨[u], []⟩ = pure [(x, u)]) (hb : ∀ env : Env, attributeBase (.Name x p1) fld env (eval (.Name x p1) env) = eval (.Name x p1) env) (hx : (x == ("__debug__" : Str)) = false)
    (ha : H a = some (.ins C dx fs)) (cl : Cls X.K C) (na : NoAttr X.K C fld) (lk : fs.lookup fld = some (.int k)) (h : Heap) (tk : Nat) (up : ∀ b o, s.heap.get? b = some o → h.get? b = some o) :
    wpAny (model X.prog X.w) A (call (.ref f) [.ref a]) (PySem.W.KeyPure (.int k) { s with heap := h, toks := tk }) (fun _ _ => False) { s with heap := h, toks := tk } := by
  obtain ⟨⟨pm, ctv, hfo⟩, _, _⟩ := I.hok f _ hf
  obtain ⟨⟨oc, vs, t, hoc, hdc, hvc⟩, _, _⟩ := I.hok c' _ hc
  obtain ⟨mA, O, r, _, _, _⟩ := ins_get I.hok ha
  obtain ⟨u, hu, ru⟩ := RelO.some_of (v := .int k) (o := mA fld) (by rw [← lk]; exact r fld)
  obtain ⟨tu, rfl⟩ := ru
  refine wpAny_call (codeAny_mono (R := fun r s' => ∃ v, r = .ok (.ret v) ∧ PySem.W.KeyPure (.int k) { s with heap := h, toks := tk } v s') ?_ fun r s' hq => ?_)
  · refine PySem.W.kla_callFunE hd (up _ _ hfo) rfl L.co L.gen rfl ⟨c', oc, vs, t, rfl, up _ _ hoc, hdc, hvc⟩ ?_
    rw [hbind]
    refine wpAny_pure (wpAny_newFunctionEnv L.own (fun y hy => ?_) (fun h₁ hns hsb => ⟨?_, ?_⟩) L.kind)
    · cases List.mem_singleton.mp hy
      exact L.loc
    · exact ((I.nolimit.keeps up)).fresh _ hsb
    · have kp : ∀ b o, h.get? b = some o → h₁.get? b = some o := fun b o e => (hsb.2 b (Nat.ne_of_lt (Heap.lt_size e))).trans (Heap.get?_push_of_some _ e)
      have kp2 : ∀ b o, s.heap.get? b = some o → h₁.get? b = some o := fun b o e => kp b o (up b o e)
      refine PySem.W.kla_codeExpr (attr_of (hb _) (wpAny_Name (wpAny_loadName_local L.kind L.loc hns (v := .ref a) ?_ ?_) hx))
      · simp
      · refine get_map (K := X.K) (mA := mA) ?_ ⟨kp2 _ _ O.obj, O.ns.at fun o q => kp2 _ _ q, O.ne⟩ (cl.get fld) cl.hd na hu (handed_of (v := .int k) ⟨tu, rfl⟩) ?_
        · exact PySem.W.Frag.In.keeps I.kIn kp2
        · exact ⟨_, rfl, _, _, rfl, kp, .int k tu⟩
  · obtain ⟨v, rfl, hv⟩ := hq
    exact hv
/-- y is an instance whose field is the number k -/
def KeyedAt (K : Fg) (H : Hp) (fld : Str) (y : V) (k : Int) : Prop := ∃ (a C dx : Addr) (fs : List (Str × V)), y = .ref a ∧ H a = some (.ins C dx fs) ∧ Cls K C ∧ NoAttr K C fld ∧ fs.lookup fld = some (.int k)
/-- sorted(xs, key=lambda x: x.fld) -/
def rSortedFld (K : Fg) (x fld q : Str) (ps : Arguments) (sc : Scope) (p1 p2 : Pos) : List V → List V → Hp → VK → Prop := fun vs zs H Q => ∃ (l f c' : Addr) (ys : List V) (ks : List Int), vs = [.ref l] ∧ zs = [.ref f] ∧ SqL K H l ys ∧
  H f = some (FunO f q ps (.Attribute (.Name x p1) fld p2) sc [] c') ∧ H c' = some (CodeO c' q) ∧ Paired (KeyedAt K H fld) ys ks ∧
  ∀ p, H p = none → Q (.ref p) (upd H p (.lst (((ys.zip ks).mergeSort fun a b => decide (a.2 ≤ b.2)).map (·.1))))
theorem zip_each {K : Fg} {H : Hp} {fld : Str} : ∀ {ys : List V} {ks : List Int} {its : List Value}, Vals ys its → Paired (KeyedAt K H fld) ys ks → PySem.W.EachIs (fun (v : Value) (b : V × Int) => RelV b.1 v ∧ KeyedAt K H fld b.1 b.2) its (ys.zip ks)
  | _, _, _, .nil, .nil => .nil
  | _, _, _, .cons r rs, .cons k ks => .cons ⟨r, k⟩ (zip_each rs ks)
theorem vals_each {K : Fg} {H : Hp} {fld : Str} : ∀ {out : List Value} {bs : List (V × Int)}, PySem.W.EachIs (fun (v : Value) (b : V × Int) => RelV b.1 v ∧ KeyedAt K H fld b.1 b.2) out bs → Vals (bs.map (·.1)) out
  | _, _, .nil => .nil
  | _, _, .cons h t => .cons h.1 (vals_each t)
theorem cr_sortedFld {q x fld : Str} {ps : Arguments} {sc : Scope} {p1 p2 : Pos} (hr : Room 1 X.A) (L : KeyL sc x)
    (hbind : ∀ pm cv ctv u, bindArgs (PySem.W.kla_fn "<lambda>" q ps (.Attribute (.Name x p1) fld p2) sc [] pm cv ctv) ⟨[u], []⟩ = pure [(x, u)]) (hb : ∀ env : Env, attributeBase (.Name x p1) fld env (eval (.Name x p1) env) = eval (.Name x p1) env) (hx : (x == ("__debug__" : Str)) = false) :
    CallRK X (.builtin "sorted") [Str.ofString "key"] (rSortedFld X.K x fld q ps sc p1 p2) := by
  intro pins s σ H vs zs us ws Q I r rz h
  obtain ⟨l, f, c', ys, ks, rfl, rfl, hs, hf, hc, pr, qk⟩ := h
  obtain rfl := Vals.ref1 r
  obtain ⟨w1, rfl, e1⟩ := vals1 rz
  obtain rfl : w1 = Value.ref f := e1
  obtain ⟨its, rv, hl, hz⟩ := I.list hs
  have ln : ys.length = ks.length := Paired.length pr
  have lz : (ys.zip ks).length = ys.length := by rw [List.length_zip, ← ln, Nat.min_self]
  refine PySem.W.sorted_key_data (β := V × Int) (b := false) (R := fun v b => RelV b.1 v ∧ KeyedAt X.K H fld b.1 b.2) (vs := its) (bs := ys.zip ks) (fun b => .int b.2) hl.isList (zip_each rv pr)
    (PySem.W.AllAlike.of fun _ _ => by simp [PySem.W.alike]) (PySem.W.Sortable.others fun _ => ⟨(fun z => nomatch z), fun _ z => nomatch z⟩) (by rw [lz]; exact hz) (fun b _ => ?_) (PyProof.Rows.ksk_s1 _ _) (fun _ => PyProof.Rows.ksk_l1 _ _) (fun _ => PyProof.Rows.ksk_t1 _ _) (fun v b hR _ h tk up => ?_) fun out c h' tk up hn hD hlen he => ?_
  · have := hr.un
    show X.A.units + 2 + 0 < cLine
    omega
  · obtain ⟨hv, a, C, dx, fs, e, ha, cl, na, lk⟩ := hR
    rw [e] at hv
    obtain rfl : v = Value.ref a := hv
    refine key_call I hf hc L ?_ hbind hb hx ha cl na lk h tk up
    have := hr.dp
    show X.A.depth < recursionLimit
    omega
  · rw [PySem.W.dataLe_int (fun b : V × Int => b.2)] at he
    have hl2 : (((ys.zip ks).mergeSort fun a b => decide (a.2 ≤ b.2)).map (·.1)).length ≤ sizeLine := by
      rw [List.length_map, List.length_mergeSort, lz]
      exact hz
    exact ⟨.ref _, upd H (s.heap.objs.size + 1) (.lst (((ys.zip ks).mergeSort fun a b => decide (a.2 ≤ b.2)).map (·.1))), I.laid up (Nat.le_succ _) ⟨hl2, out, c, vals_each he, hD⟩, rfl, qk _ (I.hok.fresh (Nat.le_succ _))⟩
end
end Tw
/-! Tw: classmethods: their facts as a Bool, C.m(), cls(e), cls(*e). -/
namespace Tw
open PySem PySem.Spec PyProof.Rows L2 He LamX
/-- the def behind the classmethod C.m -/
abbrev cmAt (K : Fg) (x m : Str) : Addr := He5.wf K (ga K x) "classmethod" m
def clsmB (K : Fg) (x m : Str) : Bool := He5.wrapB K (ga K x) "classmethod" "classmethod.__get__" m && PySem.W.fnIn K (cmAt K x m)
theorem clsmB_ok {K : Fg} {x m : Str} (h : clsmB K x m = true) : ClX.CMet K (ga K x) (.type "type") m (ma K (ga K x) m) (cmAt K x m) := by
  obtain ⟨h1, h2⟩ := ba h
  exact He5.cmet_of h1 h2
/-- a def behind a classmethod, as the head's data -/
def dCl (cls : Stmt) (j : Nat) (c m : Str) : DefA := ⟨fun K => cmAt K c m, m, c ++ "." ++ m, defArgs (inClass cls j), defBody (inClass cls j), defScope (inClass cls j), [], []⟩
theorem hfree_by {sc sc' : Scope} (h : (sc.names.all fun y => !decide (y.2 = NameKind.free) || (decide (sc'.names.lookup y.1 = some .cell) || decide (sc'.names.lookup y.1 = some .free))) = true) :
    ∀ y ∈ sc.names, y.2 = .free → sc'.names.lookup y.1 = some .cell ∨ sc'.names.lookup y.1 = some .free := fun y hy e => by
  have z := List.all_eq_true.mp h y hy
  rw [decide_eq_true e, Bool.not_true, Bool.false_or, Bool.or_eq_true] at z
  exact z.imp of_decide_eq_true of_decide_eq_true
section
variable {X : Cx} {CX : CXT} {k i : Nat} {C p g f : Addr} {mc : Value} {sp : Sp} {E : XK} {x m : Str} {o e : Expr} {es : List Expr} {pos apos np : Pos} {ta te : TE} {t : TA}
/-- o.m(), o the class at C -/
theorem pe_cmeth0 {pl : Sem Bool} (he : PE X o ta) (r : ClX.CRead X.K C mc) (c : ClX.CMet X.K C mc m p g) (F : FnR X.prog X.w X.K X.mg X.base CX k g sp) (hr : Room k X.A) (hx : Passes CX X E)
    (ht : eval (.Call (.Attribute o m apos) [] [] pos) X.env = (do
      let ov ← eval o X.env
      standAt apos.atName
      let (f, first) ← holding [ov] (getMethod ov m pl)
      callWith pos f first (backTo pos (starEach [] X.env)) (backToKw pos (keywordEach [] X.env))) := by rfl) :
    PE X (.Call (.Attribute o m apos) [] [] pos) (fun σ H Q => ta σ H fun x H1 => x = .ref C ∧ sp [.ref C] H1 Q E) := by
  refine ⟨fun pins s σ H Q I h => PySem.W.methodCall_KW (pl := pl) (thn (he.run pins s σ H _ I h) fun u s1 ⟨x, H1, I1, rx, ex, q⟩ => ?_) ht⟩
  subst ex
  obtain rfl : u = Value.ref C := rx
  refine ClX.getmethcm_ok I1 r c fun s2 I2 => ?_
  exact PySem.W.callWith_M0 (first := []) ⟨ClX.pin_at I2, I2.kIn⟩ c.fi (ClX.run_cm (us := []) (vs := []) F hr hx I2 .nil q)
/-- x(e, ..), x a local name that holds the class at C -/
theorem pe_makeV (M : Mk X.K C f) (F : FnR X.prog X.w X.K X.mg X.base CX k f sp) (hr : Room (k + 1) X.A) (hx : Passes CX X E) (hN : X.N[i]? = some x) (hv : Vis X.env.scope x) (ha : PA X (e :: es) t)
    (hd : (x == ("__debug__" : Str)) = false := by decide) (hcd : (x == ("__classdict__" : Str)) = false := by decide)
    (he : starEach (e :: es) X.env = (false, eval e X.env) :: starEach es X.env := by rfl) (hpl : (backTo pos (starEach es X.env)).any (·.1) = false := by rfl) :
    PE X (.Call (.Name x np) (e :: es) [] pos) (fun σ H Q => σ[i]? = some (some (.ref C)) ∧ StX.tMakeR C sp E t σ H Q) := by
  refine ⟨fun pins s σ H Q I h => wpAny_Call_Name_kw (thn ((pe_var (pos := np) (i := i) hN hv hd hcd).run pins s σ H (fun v H1 => v = .ref C ∧ H1 = H) I ⟨.ref C, h.1, rfl, rfl⟩) fun u s1 ⟨v, H1, I1, r1, ev, eH⟩ => ?_)⟩
  subst ev eH
  cases r1
  exact PySem.W.callWith_K (h₀ := X.base) I1.ok.mod.kin M.kp (thn (ha.run pos pins s1 σ _ _ I1 h.2) fun us s2 ⟨vs, H2, I2, r, q⟩ => ⟨I2.kIn, StX.run_makeR M F hr hx I2 r q⟩) he hpl
/-- x(*y), x a local name that holds the class at C -/
theorem pe_makeVS (M : Mk X.K C f) (F : FnR X.prog X.w X.K X.mg X.base CX k f sp) (hr : Room (k + 1) X.A) (hx : Passes CX X E) (hN : X.N[i]? = some x) (hv : Vis X.env.scope x) (he : PE X e te)
    (hd : (x == ("__debug__" : Str)) = false := by decide) (hcd : (x == ("__classdict__" : Str)) = false := by decide)
    (hst : starEach [.Starred e apos] X.env = [(true, eval e X.env)] := by rfl) :
    PE X (.Call (.Name x np) [.Starred e apos] [] pos) (fun σ H Q => σ[i]? = some (some (.ref C)) ∧ te σ H fun y H1 => ∃ a xs, y = V.ref a ∧ (SqT X.K H1 a xs ∨ SqL X.K H1 a xs) ∧ ∀ z dx, H1 z = none → H1 dx = none → dx ≠ z →
      sp (V.ref z :: xs) (upd (upd H1 dx (.own z)) z (.ins C dx [])) (fun v H2 => v = .non ∧ Q (.ref z) H2) E) := by
  refine ⟨fun pins s σ H Q I h => wpAny_Call_Name_kw (thn ((pe_var (pos := np) (i := i) hN hv hd hcd).run pins s σ H (fun v H1 => v = .ref C ∧ H1 = H) I ⟨.ref C, h.1, rfl, rfl⟩) fun u s1 ⟨v, H1, I1, r1, ev, eH⟩ => ?_)⟩
  subst ev eH
  cases r1
  refine PySem.W.callWith_S (h₀ := X.base) I1.ok.mod.kin M.kp (thn (he.run pins s1 σ _ _ I1 h.2) fun v s2 ⟨y, H2, I2, ry, a, xs, ey, hxs, q⟩ => ?_) hst
  subst ey
  obtain rfl : v = Value.ref a := ry
  exact StX.star_any I2 hxs fun us s3 I3 rv => ⟨I3.kIn, StX.run_makeR M F hr hx I3 rv q⟩
/-- x(*y), x a global class -/
theorem pe_makeGS (M : Mk X.K C f) (F : FnR X.prog X.w X.K X.mg X.base CX k f sp) (hr : Room (k + 1) X.A) (hx : Passes CX X E) (hg : Gl X x) (hm : X.mg x = some (.ref C)) (he : PE X e te) (hd : (x == ("__debug__" : Str)) = false := by decide)
    (hst : starEach [.Starred e apos] X.env = [(true, eval e X.env)] := by rfl) :
    PE X (.Call (.Name x np) [.Starred e apos] [] pos) (fun σ H Q => te σ H fun y H1 => ∃ a xs, y = V.ref a ∧ (SqT X.K H1 a xs ∨ SqL X.K H1 a xs) ∧ ∀ z dx, H1 z = none → H1 dx = none → dx ≠ z →
      sp (V.ref z :: xs) (upd (upd H1 dx (.own z)) z (.ins C dx [])) (fun v H2 => v = .non ∧ Q (.ref z) H2) E) := by
  refine ⟨fun pins s σ H Q I h => wpAny_Call_Name_kw (ld_glob I hg hm ?_ hd)⟩
  refine PySem.W.callWith_S (h₀ := X.base) I.ok.mod.kin M.kp (thn (he.run pins s σ _ _ I h) fun v s2 ⟨y, H2, I2, ry, a, xs, ey, hxs, q⟩ => ?_) hst
  subst ey
  obtain rfl : v = Value.ref a := ry
  exact StX.star_any I2 hxs fun us s3 I3 rv => ⟨I3.kIn, StX.run_makeR M F hr hx I3 rv q⟩
end
end Tw
/-! Tw: what stands while lambdas are made beside a pen; slices as take and drop. -/
namespace Tw
open PySem PySem.Spec PyProof.Rows L2 He LamX
/-- all but the tables and what stands at p stay -/
def ButN (p : Addr) (H H' : Hp) : Prop := ∀ b o, H b = some o → b ≠ p → (∀ ps, o ≠ .tbl ps) → H' b = some o
theorem ButN.refl (p : Addr) (H : Hp) : ButN p H H := fun _ _ e _ _ => e
theorem ButN.of {p : Addr} {H H' : Hp} (e : ExtN H H') : ButN p H H' := fun b o h _ n => e b o h n
theorem ButN.but {p : Addr} {H H' : Hp} (e : But p H H') : ButN p H H' := fun b o h n _ => e b o h n
theorem ButN.trans {p : Addr} {H H1 H2 : Hp} (a : ButN p H H1) (b : ButN p H1 H2) : ButN p H H2 := fun c o e h n => b c o (a c o e h n) h n
theorem tabs_but {T : List (Addr × Str)} {p : Addr} {H H' : Hp} (h : Tabs T H) (e : But p H H') (hp : ∀ ps, H p ≠ some (.tbl ps)) (hc : ∀ c q, H p ≠ some (CodeO c q)) : Tabs T H' := fun q hq => by
  obtain ⟨ps, h1, h2, h3⟩ := h q hq
  have n1 : q.1 ≠ p := fun z => hp ps (z ▸ h1)
  refine ⟨ps, e _ _ h1 n1, h2, fun pos cv hcv => ?_⟩
  obtain ⟨c, e1, e2⟩ := h3 pos cv hcv
  have n2 : c ≠ p := fun z => hc c q.2 (by rw [z] at e2 ⊢; exact e2)
  exact ⟨c, e1, e _ _ e2 n2⟩
theorem penN {H H' : Hp} {p l : Addr} {c : Nat} (P : PenL H p l c) (e : ExtN H H') : PenL H' p l c := by
  obtain ⟨ns, i, g, e1, e2, r⟩ := P
  exact ⟨ns, i, g, e _ _ e1 (fun _ z => nomatch z), e _ _ e2 (fun _ z => nomatch z), r⟩
theorem tabs_pen {T : List (Addr × Str)} {p l : Addr} {c : Nat} {H H' : Hp} (h : Tabs T H) (e : But p H H') (P : PenL H p l c) : Tabs T H' := by
  obtain ⟨ns, i, g, e1, _⟩ := P
  exact tabs_but h e (fun ps z => by rw [e1] at z; cases z) (fun c q z => by rw [e1] at z; exact nomatch z)
/-- the tables T, the pen at p; all else as it was at H0 -/
structure Lx (T : List (Addr × Str)) (H0 H : Hp) (p l : Addr) (c : Nat) : Prop where
  t : Tabs T H
  P : PenL H p l c
  b : ButN p H0 H
theorem Lx.same {T : List (Addr × Str)} {H0 H H' : Hp} {p l : Addr} {c : Nat} (S : Lx T H0 H p l c) (e : Same H H') : Lx T H0 H' p l c := ⟨S.t.ext e, S.P.same e, S.b.trans (ButN.but (But.of e))⟩
theorem Lx.ext {T : List (Addr × Str)} {H0 H H' : Hp} {p l : Addr} {c : Nat} (S : Lx T H0 H p l c) (e : ExtN H H') (t : Tabs T H') : Lx T H0 H' p l c := ⟨t, penN S.P e, S.b.trans (ButN.of e)⟩
theorem Lx.pen {T : List (Addr × Str)} {H0 H H' : Hp} {p l : Addr} {c c' : Nat} (S : Lx T H0 H p l c) (e : But p H H') (P : PenL H' p l c') : Lx T H0 H' p l c' := ⟨tabs_pen S.t e S.P, P, S.b.trans (ButN.but e)⟩
theorem Lx.mono {T : List (Addr × Str)} {H0 H : Hp} {p l : Addr} {c c' : Nat} (S : Lx T H0 H p l c) (h : c ≤ c') : Lx T H0 H p l c' := ⟨S.t, S.P.mono h, S.b⟩
theorem Lx.from {T : List (Addr × Str)} {H0 H1 H : Hp} {p l : Addr} {c : Nat} (b : ButN p H0 H1) (S : Lx T H1 H p l c) : Lx T H0 H p l c := ⟨S.t, S.P, b.trans S.b⟩
/-- a heap with one object changed that is no table and not the pen -/
theorem Lx.upd {T : List (Addr × Str)} {H0 H : Hp} {p l q : Addr} {c : Nat} {o : HO} {xs : List V} (S : Lx T H0 H p l c) (h0 : H0 q = none) (hq : H q = some (.lst xs)) (n1 : q ≠ p) (n2 : q ≠ l) : Lx T H0 (L2.upd H q o) p l c := by
  refine ⟨tabs_but (p := q) S.t But.upd (fun ps z => by rw [hq] at z; cases z) (fun c q' z => by rw [hq] at z; exact nomatch z), S.P.upd n1 n2, fun b u e hb ht => ?_⟩
  rw [upd_ne (ne_of_none e h0)]
  exact S.b b u e hb ht
theorem cutTake (xs : List V) (n : Nat) : cutV xs none (some ((n : Nat) : Int)) = xs.take n := by
  unfold cutV
  rw [HT.sIx_none, HT.sIx_nat, List.drop_zero, Nat.sub_zero]
  rcases Nat.le_total n xs.length with h | h
  · rw [Nat.min_eq_left h]
  · rw [Nat.min_eq_right h, List.take_of_length_le h, List.take_of_length_le (Nat.le_refl _)]
theorem cutDrop (xs : List V) (n : Nat) : cutV xs (some ((n : Nat) : Int)) none = xs.drop n := by
  unfold cutV
  rw [HT.sIx_none, HT.sIx_nat, List.take_of_length_le (by rw [List.length_drop]; exact Nat.le_refl _)]
  rcases Nat.le_total n xs.length with h | h
  · rw [Nat.min_eq_left h]
  · rw [Nat.min_eq_right h, List.drop_of_length_le h, List.drop_of_length_le (Nat.le_refl _)]
end Tw
/-! Tw: set comprehensions with one clause, whatever the set holds; those of ints. -/
namespace Tw
open PySem PySem.Spec PyProof.Rows L2 He
/-- an empty set is laid as o0 tells -/
def NewSet (P : Program) (w : World) (o0 : Addr → HO) : Prop := ∀ (H : Hp) (h : Heap), ObjOk P w (upd H h.objs.size (o0 h.objs.size)) (h.push { cls := .type "set", dict := none, data := .set #[] 0 (.fresh 0 0 (!w.params.followText "set-order")) }) h.objs.size (o0 h.objs.size)
/-- a member is put in as ad tells -/
def AddSet (P : Program) (w : World) (ad : V → Addr → Hp → (Hp → Prop) → Prop) : Prop := ∀ (Z : Cx) (_ : Z.prog = P) (_ : Z.w = w) {pins : List (Addr × Obj)} {σ : L2.St} {H : Hp} {s : Shared} {D : Addr} {y : V} {u : Value} {Nx : Hp → Prop} {Q E : Value → Shared → Prop},
  (∀ e s, Z.xe e s → E e s) → Inv Z pins σ H s → RelV y u → ad y D H Nx → (∀ H' s', Inv Z pins σ H' s' → Nx H' → Q .none s') → wpAny (model Z.prog Z.w) Z.A (call (.builtin "set.add") [.ref D, u]) Q E s
/-- {elt for target in iter if ..}: D the new set -/
def tSetC (o0 : Addr → HO) (ad : V → Addr → Hp → (Hp → Prop) → Prop) (wi : TI) (g : TG) (tt : TT) (te : TE) (vs : List Nat) : TE := fun σ H Q => wi σ H fun J H1 => ∀ D, H1 D = none →
  ∃ W : Nat → Nat → Hp → Prop, (∃ m, W 0 m (upd H1 D (o0 D))) ∧ ∀ i m H, W i m H → (J.stop i H ∧ Q (.ref D) H) ∨ (J.go i H ∧ ∃ Nx : Hp → Prop, (∀ H', Nx H' → ∃ m', m' < m ∧ W (i + 1) m' H') ∧
    ∀ x H', J.yld i H x H' → g x (wipe σ vs) H' fun σ2 H2 => wipe σ2 vs = wipe σ vs ∧ tt σ2 H2 fun b H3 => if b = true then te σ2 H3 fun y H4 => ad y D H4 Nx else Nx H3)
section
variable {X : Cx}
theorem setc_core {o0 : Addr → HO} {ad : V → Addr → Hp → (Hp → Prop) → Prop} (hnew : NewSet X.prog X.w o0) (hadd : AddSet X.prog X.w ad) {pins : List (Addr × Obj)} {s : Shared} {σ : L2.St} {H : Hp} {Q : VK} {elt tg iter : Expr} {ifs : List Expr} {scope : Scope} {own : List (PySem.Str × Nat)} {pos pos' : Pos} {wi : TI} {g : TG} {tt : TT} {te : TE} {use : Option (Value → Sem Unit)} {Qf : Value → Shared → Prop}
    (hc : X.calm = true) (hN : X.N.Nodup) (I : Inv X pins σ H s) (hi : PI X tg iter wi) (ok : BlkOk X.N X.env.scope scope own)
    (hg : ∀ (s : Shared) (H : Hp) (C : Addr) (cl : List (PySem.Str × Addr)) (fp : List Addr), PG (X.blk s H scope (compEnvC scope cl C X.env) fp) tg g) (ht : ∀ (s : Shared) (H : Hp) (C : Addr) (cl : List (PySem.Str × Addr)) (fp : List Addr), PTs (X.blk s H scope (compEnvC scope cl C X.env) fp) ifs tt)
    (he : ∀ (s : Shared) (H : Hp) (C : Addr) (cl : List (PySem.Str × Addr)) (fp : List Addr), PE (X.blk s H scope (compEnvC scope cl C X.env) fp) elt te) (hs : ∀ x, foldedSetIterable iter X.env x = pure x)
    (h : tSetC o0 ad wi g tt te (own.map (·.2)) σ H Q)
    (hRR : ∀ D C s' m H', Inv X pins σ H' s' → Q (.ref D) H' → s'.heap.Ns C m → FpOk X pins H' C → compPost (model X.prog X.w) X.A X.xe use Qf (.ref D) C (.ok .next) s') :
    wpAny (model X.prog X.w) X.A (comprehension (.SetComp elt [⟨tg, iter, ifs, 0⟩] scope pos) scope X.env pos' (newSet (.type "set")) false (eval iter X.env) use) Qf X.xe s := by
  have free1 : ∀ y ∈ scope.names, y.2 = .free → ∃ c, X.env.cells.lookup y.1 = some c := fun y hy e => (ok.free y hy e).elim (fun k => I.ok.has _ (.inl k)) fun k => I.ok.has _ (.inr k)
  refine wpAny_comprehension_free (use := use) rfl hs (closure_ok free1) ok.kind (fun y hy e => by rw [ok.uniq y hy, e])
    (thn (hi.run pins s σ H _ I h) fun xv u1 hx => thn hx fun itv u2 h2 => ?_)
  obtain ⟨it, fp, tn, J, G2, e, J2, T, q2, fa2, q⟩ := h2
  subst e
  refine PpSet.newSet_ok (newEnv_comp ?_)
  generalize eD : u2.heap.objs.size = D
  have nD : G2 D = none := J2.hok.fresh (Nat.le_of_eq eD)
  obtain ⟨W, ⟨m0, w00⟩, step1⟩ := q D nD
  -- the new list
  generalize es3 : ({ u2 with heap := u2.heap.push { cls := .type "set", dict := none, data := .set #[] 0 (.fresh 0 0 (!X.w.params.followText "set-order")) } } : Shared) = u3
  have J3 : Inv X pins σ (upd G2 D (o0 D)) u3 := by
    rw [← es3]
    refine J2.laid (t' := u2.toks) (fun b o e => Heap.get?_push_of_some _ e) (Nat.le_of_eq eD) ?_
    rw [← eD]
    exact hnew G2 u2.heap
  have e3 : u3.heap = u2.heap.push { cls := .type "set", dict := none, data := .set #[] 0 (.fresh 0 0 (!X.w.params.followText "set-order")) } := by rw [← es3]
  have szl : ∀ b ∈ fp, b < u2.heap.objs.size := fun b hb => by
    obtain ⟨o, e, _⟩ := T.obj _ _ q2 b hb
    exact Heap.lt_size e
  have fa3 : ∀ b ∈ fp, FpOk X pins (upd G2 D (o0 D)) b ∧ b < u3.heap.objs.size := fun b hb => by
    have hlt := szl b hb
    refine ⟨⟨?_, (fa2 b hb).2⟩, by rw [e3, Heap.size_push]; exact Nat.lt_succ_of_lt hlt⟩
    rw [upd_ne (by rw [← eD]; exact Nat.ne_of_lt hlt)]
    exact (fa2 b hb).1
  have q3 : tn 0 u3.heap := T.keep _ _ _ q2 fun b _ o e => by rw [e3]; exact Heap.get?_push_of_some _ e
  have J4 := block_start J3 ok hN fa3
  have tg1 := hg u3 (upd G2 D (o0 D)) u3.heap.objs.size (cellsFrom (u3.heap.objs.size + 1) scope.names (cloFrom X.env.cells scope.names [])) fp
  have tt1 := ht u3 (upd G2 D (o0 D)) u3.heap.objs.size (cellsFrom (u3.heap.objs.size + 1) scope.names (cloFrom X.env.cells scope.names [])) fp
  have te1 := he u3 (upd G2 D (o0 D)) u3.heap.objs.size (cellsFrom (u3.heap.objs.size + 1) scope.names (cloFrom X.env.cells scope.names [])) fp
  show codeAny _ _ (.compStart (.SetComp elt [⟨tg, iter, ifs, 0⟩] scope pos) 0 (.ref it) (.ref D) (compEnvC scope (cellsFrom (u3.heap.objs.size + 1) scope.names (cloFrom X.env.cells scope.names [])) u3.heap.objs.size X.env)) (compPost (model X.prog X.w) X.A X.xe use Qf (.ref D) u3.heap.objs.size) { u3 with heap := pushCells (u3.heap.push { cls := .type "dict", data := .dict #[] }) scope.names }
  have zfp : ∀ b ∈ fp, (upd G2 D (o0 D)) b = none := fun b hb => (fa3 b hb).1.1
  generalize ece : compEnvC scope (cellsFrom (u3.heap.objs.size + 1) scope.names (cloFrom X.env.cells scope.names [])) u3.heap.objs.size X.env = ce at J4 tg1 tt1 te1 ⊢
  have lc : ce.locals = u3.heap.objs.size := by subst ece; rfl
  generalize eG3 : upd G2 D (o0 D) = G3 at J3 J4 tg1 tt1 te1 w00 zfp fa3
  generalize es4 : ({ u3 with heap := pushCells (u3.heap.push { cls := .type "dict", data := .dict #[] }) scope.names } : Shared) = u4 at J4 ⊢
  have q4 : tn 0 u4.heap := T.keep _ _ _ q3 fun b _ o e => by rw [← es4]; exact pushCells_keeps _ _ _ _ (Heap.get?_push_of_some _ e)
  have fpo : ∀ {σ' : L2.St} {H' : Hp} {s' : Shared}, Inv (X.blk u3 G3 scope ce fp) [] σ' H' s' → (∀ b ∈ fp, H' b = none) → ∀ b ∈ fp, FpOk (X.blk u3 G3 scope ce fp) [] H' b := fun {σ' H' s'} I' hn b hb =>
    ⟨hn b hb, (I'.ok.exf b hb).1, I'.ok.exfs b hb, .inl hb, fun x c e => (I'.ok.exf b hb).2 x c e, fun p hp => absurd (show p ∈ ([] : List (Addr × Obj)) ++ [] from hp) (by simp)⟩
  have go1 : codeAny (model X.prog X.w) X.A (.compLoop (.SetComp elt [⟨tg, iter, ifs, 0⟩] scope pos) 0 (.ref it) (.ref D) ce) (compPost (model X.prog X.w) X.A X.xe use Qf (.ref D) u3.heap.objs.size) u4 := by
    refine PpSet.compLoopS_any (fun n s' => ∃ i H', Inv (X.blk u3 G3 scope ce fp) [] (wipe σ (own.map (·.2))) H' s' ∧ tn i s'.heap ∧ (∀ b ∈ fp, H' b = none) ∧ W i n H') ?_ m0 ⟨0, G3, J4, q4, zfp, w00⟩
    rintro n u5 ⟨i, G5, J5, q5, n5, w5⟩
    rcases step1 i n G5 w5 with ⟨stop, qq⟩ | ⟨go, Nx, hNx, step⟩
    · have dn := T.done (X.blk u3 G3 scope ce fp) rfl rfl rfl hc i [] u5 _ G5 (fun _ _ => False) J5 (fpo J5 n5) q5 stop
      refine thnF dn fun r u6 ⟨hr, J6⟩ => ?_
      subst hr
      -- back in the def's context
      have J7 : Inv X pins σ G5 u6 := J3.call' (ch := fp) J6.os J6.base J6.hok J6.bare fun b hb => ⟨(fa3 b hb).1.2.2.2.1, (fa3 b hb).1.2.1, (fa3 b hb).1.2.2.2.2.1, (fa3 b hb).1.2.2.2.2.2⟩
      have nC : G5 u3.heap.objs.size = none := by
        have z : G5 ce.locals = none := J6.free
        rw [lc] at z
        exact z
      obtain ⟨m, hn, _⟩ := J6.loc
      have hn : u6.heap.Ns ce.locals m := hn
      rw [lc] at hn
      exact hRR D u3.heap.objs.size u6 m G5 J7 qq hn (J3.fpOk (Nat.le_refl _) nC)
    · have it1 := T.item (X.blk u3 G3 scope ce fp) rfl rfl rfl hc i [] u5 _ G5 (fun _ _ => False) J5 (fpo J5 n5) q5 go
      refine thnF it1 fun r u6 ⟨u, hr, h6⟩ => ?_
      subst hr
      refine thnF h6 fun _ u7 ⟨x, G7, J7, r7, y7, q7, n7⟩ => ?_
      have J7' := J7.pinned (fpo J7 n7) (T.obj _ _ q7)
      refine thnF (tg1.run _ u7 _ G7 x u _ J7' r7 (step x G7 y7)) fun _ u8 ⟨σ8, G8, J8, hw8, q8⟩ => ?_
      refine thnF (tt1.run _ u8 σ8 G8 _ J8 q8) fun b u9 ⟨G9, J9, q9⟩ => ?_
      -- the turn's end
      have endt : ∀ {s' : Shared} {H' : Hp}, Inv (X.blk u3 G3 scope ce fp) ([] ++ pinsAt fp u7.heap) σ8 H' s' → Nx H' → ∃ m, m < n ∧ ∃ i H', Inv (X.blk u3 G3 scope ce fp) [] (wipe σ (own.map (·.2))) H' s' ∧ tn i s'.heap ∧ (∀ b ∈ fp, H' b = none) ∧ W i m H' := fun {s' H'} I' nx => by
        obtain ⟨m', hm, w'⟩ := hNx H' nx
        have pin' : ∀ b ∈ fp, ∀ o, u7.heap.get? b = some o → s'.heap.get? b = some o ∧ H' b = none := fun b hb o e =>
          let z := I'.pin (b, o) (List.mem_append_right _ (List.mem_append_right _ (mem_pinsAt hb e)))
          ⟨z.1, z.2.1⟩
        have hl : (wipe σ (own.map (·.2))).length = σ8.length := by rw [← hw8, wipe_length]
        refine ⟨m', hm, i + 1, H', (I'.unpinned (pins := [])).weak hl (fun j v e => ?_), T.keep _ _ _ q7 fun b hb o e => (pin' b hb o e).1, fun b hb => ?_, w'⟩
        · rw [← hw8] at e
          exact (wipe_some e).1
        · obtain ⟨o, e, _⟩ := T.obj _ _ q7 b hb
          exact (pin' b hb o e).2
      cases b with
      | false =>
        simp only [Bool.false_eq_true, if_false] at q9 ⊢
        exact endt J9 q9
      | true =>
        simp only [if_true] at q9 ⊢
        refine thnF (te1.run _ u9 σ8 G9 _ J9 q9) fun z u10 ⟨yv, G10, J10, r10, nx⟩ => ?_
        exact hadd (X.blk u3 G3 scope ce fp) rfl rfl (fun _ _ z => False.elim z) J10 r10 nx fun H' u11 J11 nx' => endt J11 nx'
  exact PpSet.codeAny_compStart_set go1 (T.self X.A 0 _ _ _ q4 go1)
/-- as a value -/
theorem pe_setc {o0 : Addr → HO} {ad : V → Addr → Hp → (Hp → Prop) → Prop} {elt tg iter : Expr} {ifs : List Expr} {scope : Scope} {own : List (PySem.Str × Nat)} {pos : Pos} {wi : TI} {g : TG} {tt : TT} {te : TE} (hnew : NewSet X.prog X.w o0) (hadd : AddSet X.prog X.w ad) (hc : X.calm = true) (hN : X.N.Nodup) (hi : PI X tg iter wi) (ok : BlkOk X.N X.env.scope scope own)
    (hg : ∀ (s : Shared) (H : Hp) (C : Addr) (cl : List (PySem.Str × Addr)) (fp : List Addr), PG (X.blk s H scope (compEnvC scope cl C X.env) fp) tg g)
    (ht : ∀ (s : Shared) (H : Hp) (C : Addr) (cl : List (PySem.Str × Addr)) (fp : List Addr), PTs (X.blk s H scope (compEnvC scope cl C X.env) fp) ifs tt)
    (he : ∀ (s : Shared) (H : Hp) (C : Addr) (cl : List (PySem.Str × Addr)) (fp : List Addr), PE (X.blk s H scope (compEnvC scope cl C X.env) fp) elt te)
    (hs : ∀ x, foldedSetIterable iter X.env x = pure x := by intro _; rfl) : PE X (.SetComp elt [⟨tg, iter, ifs, 0⟩] scope pos) (tSetC o0 ad wi g tt te (own.map (·.2))) := by
  refine ⟨fun pins s σ H Q I h => ?_⟩
  rw [PpSet.eval_SetComp]
  refine setc_core hnew hadd hc hN I hi ok hg ht he hs h fun D C s' m H' I' q hn f => ⟨m, hn, fun h'' sb => ?_⟩
  obtain ⟨z0, z1, z2, z3, z4, z5⟩ := f
  exact ⟨.ref D, H', I'.turned (t' := s'.toks) (fun b o hb e => (sb.2 b hb).trans e) z0 z1 z3 z4 z5, rfl, q⟩
/-- over a sequence that the block leaves as it is -/
theorem setc_tup {o0 : Addr → HO} {ad : V → Addr → Hp → (Hp → Prop) → Prop} {K : PySem.W.Frag} {a : Addr} {xs : List V} {g : TG} {tt : TT} {te : TE} {vs : List Nat} {σ : L2.St} {H1 : Hp} {D : Addr} {Qd : Hp → Prop} (Pv : Nat → Hp → Prop) (h0 : Pv 0 (upd H1 D (o0 D))) (hl : ∀ i H, i ≤ xs.length → Pv i H → SqT K H a xs)
    (hs : ∀ i x H, xs[i]? = some x → Pv i H → g x (wipe σ vs) H fun σ2 H2 => wipe σ2 vs = wipe σ vs ∧ tt σ2 H2 fun b H3 => if b = true then te σ2 H3 fun y H4 => ad y D H4 (Pv (i + 1)) else Pv (i + 1) H3) (hd : ∀ H, Pv xs.length H → Qd H) :
    ∃ W : Nat → Nat → Hp → Prop, (∃ m, W 0 m (upd H1 D (o0 D))) ∧ ∀ i m H, W i m H → ((Itt K a).stop i H ∧ Qd H) ∨ ((Itt K a).go i H ∧ ∃ Nx : Hp → Prop, (∀ H', Nx H' → ∃ m', m' < m ∧ W (i + 1) m' H') ∧
      ∀ x H', (Itt K a).yld i H x H' → g x (wipe σ vs) H' fun σ2 H2 => wipe σ2 vs = wipe σ vs ∧ tt σ2 H2 fun b H3 => if b = true then te σ2 H3 fun y H4 => ad y D H4 Nx else Nx H3) := by
  refine ⟨fun i m H => m = xs.length - i ∧ i ≤ xs.length ∧ Pv i H, ⟨xs.length, by omega, Nat.zero_le _, h0⟩, fun i m H ⟨em, hi, p⟩ => ?_⟩
  subst em
  have q := hl i H hi p
  rcases Nat.lt_or_eq_of_le hi with hlt | e
  · refine .inr ⟨⟨xs, xs[i], q, List.getElem?_eq_getElem hlt⟩, Pv (i + 1), fun H' p' => ⟨xs.length - (i + 1), by omega, rfl, hlt, p'⟩, fun x H' y => ?_⟩
    obtain ⟨e, y⟩ := y
    subst e
    exact hs i x _ (y xs q) p
  · subst e
    exact .inl ⟨⟨xs, q, Nat.le_refl _⟩, hd H p⟩
end
/-! ### sets of ints -/
theorem newInts {P : Program} {w : World} : NewSet P w (fun D => SetO w D (fun _ => false) 0) := fun H h => setO_new (setR_fresh w)
def adInt (w : World) : V → Addr → Hp → (Hp → Prop) → Prop := fun y D H Nx => ∃ (k : Int) (S : Int → Bool) (n : Nat), y = .int k ∧ H D = some (SetO w D S n) ∧ n + 1 < scanBound ∧ Nx (upd H D (SetO w D (fun j => S j || decide (j = k)) (if S k = true then n else n + 1)))
theorem addInts {P : Program} {w : World} : AddSet P w (adInt w) := by
  intro Z e1 e2 pins σ H s D y u Nx Q E hE I r h k
  subst e1 e2
  obtain ⟨i, S, n, rfl, hD, hn, nx⟩ := h
  refine wpAny_mono (mt_sadd (X := Z) pins s σ H (.ref D) [.int i] (.ref D) [u] (fun v H' => v = .non ∧ Nx H') I rfl (.cons r .nil) ⟨D, i, S, n, rfl, rfl, hD, hn, rfl, nx⟩) (fun v s' z => ?_) hE
  obtain ⟨v', H', I', rv, rfl, nx'⟩ := z
  cases (show v = Value.none from rv)
  exact k H' s' I' nx'
end Tw
namespace K04
open PySem PySem.Spec PyProof.Rows L2 He Tw
def topS (i : Nat) : Stmt := PySem.Challenge.pw_twoheads_k04_rows_read.main.body.getD i (.Pass ⟨0, 0, 0, 0⟩)
def dM (c : Str) (i j : Nat) (m : Str) (dvs : List Dv) : DefA := ⟨fun K => ma K (ga K c) m, m, c ++ "." ++ m, defArgs (inClass (topS i) j), defBody (inClass (topS i) j), defScope (inClass (topS i) j), dvs, []⟩
def dF (x : Str) (i : Nat) : DefA := ⟨fun K => ga K x, x, x, defArgs (topS i), defBody (topS i), defScope (topS i), [], []⟩
/-- the errors with one field -/
def errs : List (Str × Nat × Str) := [("BadItem", 5, "part"), ("BadPlace", 6, "at"), ("Disordered", 7, "at"), ("TooMany", 8, "most")]
def clss : List Str := ["HeadsError", "BadInput", "Refused", "BadItem", "BadPlace", "Disordered", "TooMany", "Item", "Row"]
def fnames : List Str := ["is_lettered", "is_number", "is_rank", "as_items", "need_row", "by_rank", "taken", "taken_of_rank", "joined", "repeated", "_law_pen", "_law_draw", "_law_pick", "_law_pairs", "_law_values", "_law_told", "_law_heard", "_law_number", "_law_index", "_law_places_right", "_law_blocks", "_law_members_right", "_law_compared", "law"]
def blts : List Str := ["sum", "repr", "list", "int", "len", "abs", "isinstance", "range", "str", "bool", "all", "enumerate", "tuple", "sorted", "iter"]
def kinds : List String := ["NoneType", "bool", "int", "str", "list", "tuple", "dict"]
/-- where the empty tuple stands that Row.__init__ has as its default -/
def nilAt (K : Fg) : Addr := match K.lookup (ma K (ga K "Row") "__init__") with
  | some ⟨_, _, .func fd, _⟩ => (match fd.defaults with
    | .ref t => (match K.lookup t with
      | some ⟨_, _, .seq its _, _⟩ => (match its.toList with
        | .ref e :: _ => e
        | _ => 0)
      | _ => 0)
    | _ => 0)
  | _ => 0
def nilB (K : Fg) : Bool := match K.lookup (nilAt K) with
  | some ⟨.type c, _, .seq its _, _⟩ => decide (c = "tuple") && its.toList.isEmpty
  | _ => false
def mostB (K : Fg) : Bool := match PySem.W.findIn K (.ref (ga K "Row")) "MOST" with
  | some (some (.int i t)) => decide (i = 200) && eqO (PySem.W.specialIn K (.int i t) "__get__") (some none)
  | _ => false
theorem nilB_ok {K : Fg} (h : nilB K = true) (H : Hp) : SqT K H (nilAt K) [] := by
  unfold nilB at h
  cases q : K.lookup (nilAt K) with
  | none =>
    rw [q] at h
    cases h
  | some o =>
    obtain ⟨oc, od, dt, sl⟩ := o
    rw [q] at h
    cases oc with
    | type c =>
      cases dt with
      | seq its n =>
        obtain ⟨h1, h2⟩ := ba h
        have e1 := of_decide_eq_true h1
        subst e1
        have e2 : its.toList = [] := List.isEmpty_iff.mp h2
        refine .inr ⟨_, its, n, q, rfl, rfl, ?_, ?_⟩
        · have e3 : its.size = 0 := by
            rw [← Array.length_toList, e2]
            rfl
          rw [e3]
          exact Nat.zero_le _
        · rw [e2]
          exact .nil
      | _ => cases h
    | _ => cases h
theorem mostB_ok {K : Fg} (h : mostB K = true) : ∃ u, Con K (ga K "Row") "MOST" (.int 200) u := by
  unfold mostB at h
  cases q : PySem.W.findIn K (.ref (ga K "Row")) "MOST" with
  | none =>
    rw [q] at h
    cases h
  | some o =>
    rw [q] at h
    cases o with
    | none => cases h
    | some v =>
      cases v with
      | int i t =>
        obtain ⟨h1, h2⟩ := ba h
        have e := of_decide_eq_true h1
        subst e
        exact ⟨_, q, ⟨_, rfl⟩, eqO_ok h2, by decide +kernel⟩
      | _ => cases h
def fn : List DefA := errs.map (fun e => dM e.1 e.2.1 0 "__init__" []) ++ [dM "Item" 17 0 "__init__" [.str ""], dM "Item" 17 3 "before" [], dM "Row" 25 1 "__init__" [.adr nilAt], dM "Row" 25 4 "__iter__" [], dM "Row" 25 10 "listed" [],
  dM "Row" 25 17 "__iadd__" [], dM "Row" 25 15 "__add__" [], dM "Row" 25 16 "__radd__" [], dM "Row" 25 18 "__or__" [], dM "Row" 25 19 "__ror__" [], dM "Row" 25 21 "__and__" [], dM "Row" 25 22 "__rand__" [], dM "Row" 25 24 "__sub__" [], dM "Row" 25 25 "__rsub__" [], dM "Row" 25 27 "__xor__" [], dM "Row" 25 28 "__rxor__" [],
  dM "Row" 25 30 "__mul__" [], dM "Row" 25 31 "__rmul__" [], dM "Row" 25 3 "__len__" [],
  dF "is_lettered" 12, dF "is_number" 15, dF "is_rank" 16, dF "as_items" 19, dF "need_row" 20, dF "by_rank" 21, dF "taken" 22, dF "taken_of_rank" 23, dF "joined" 26, dF "repeated" 27,
  dF "_law_pen" 29, dF "_law_draw" 30, dF "_law_pick" 31, dF "_law_pairs" 32, dF "_law_values" 33, dF "_law_told" 34, dF "_law_heard" 35, dF "_law_number" 36, dF "_law_index" 37, dF "_law_places_right" 38, dF "_law_blocks" 39, dF "_law_members_right" 40, dF "_law_compared" 41, dF "law" 42,
  dM "Row" 25 9 "__eq__" [], dM "Row" 25 11 "ranks" [], dM "Row" 25 12 "number" [], dM "Row" 25 13 "blocks" [], dM "Row" 25 14 "within" [], dM "Row" 25 5 "__getitem__" [], dM "Row" 25 6 "stretch" [], dM "Row" 25 8 "__contains__" []]
/-- the operators with their marks -/
def bops : List Operator := [.Add, .BitOr, .BitAnd, .Sub, .BitXor]
def lkind : List String := ["list", "tuple"]
/-- op of a list or tuple has no number slot, and Row is no kind of it -/
def seqB (K : Fg) (x : Str) (op : Operator) (t : String) : Bool := (match PySem.W.findIn K (.type t) (PySem.dunder op.info.2), PySem.W.findIn K (.type t) (PySem.dunderR op.info.2) with
  | some fo, some ro => !((fo.isSome && !PySem.isSeqSlot fo) || (ro.isSome && !PySem.isSeqSlot ro))
  | _, _ => false) && decide (PySem.W.subIn K (.ref (ga K x)) (.type t) = some false)
def letters : Str := "abcdefghijklmnopqrstuvwxyz"
def beyond : Int := 10 ^ 30
def fs : Fz := [fun K => clss.all fun x => (Fa.glo x).ok K, fun K => fnames.all fun x => (Fa.glo x).ok K, fun K => blts.all fun x => (Fa.free x).ok K, fun K => (Fa.int "BEYOND" beyond).ok K, fun K => (Fa.int "LONGEST" 8).ok K, fun K => (Fa.str "LETTERS" letters).ok K,
  fun K => errs.all fun e => (Fy.xc e.1).ok K, fun K => Fy.xo.ok K, fun K => errs.all fun e => (Fy.ini e.1).ok K, fun K => errs.all fun e => (Fy.names e.1 [e.2.2]).ok K, fun K => errs.all fun e => errs.all fun d => (Fy.kit e.1 d.1 (decide (e.1 = d.1))).ok K,
  fun K => errs.all fun e => decide (PySem.W.exmOne K (.ref (ga K e.1)) (.ref (ga K "HeadsError")) = some true),
  fun K => kinds.all fun t => decide (PySem.W.kitOne K (.type t) (.ref (ga K "Item")) = some false) && errs.all fun e => decide (PySem.W.kitOne K (.type t) (.ref (ga K e.1)) = some false),
  fun K => (Fy.kit "Item" "Item" true).ok K, fun K => (Fy.kit "Row" "Row" true).ok K, fun K => PySem.W.notFirst K (ga K "Row") (.ref (ga K "Row")),
  fun K => (Fa.cls "Item").ok K, fun K => (Fa.mkr "Item").ok K, fun K => (["rank", "name"] : List Str).all fun f => (Fa.noat "Item" f).ok K, fun K => (Fa.meth "Item" "before").ok K,
  fun K => (Fa.cls "Row").ok K, fun K => (Fa.mkr "Row").ok K, fun K => (Fa.noat "Row" "state").ok K, fun K => (["listed", "__iter__"] : List Str).all fun m => (Fa.meth "Row" m).ok K,
  fun K => (["Item", "Row"] : List Str).all fun c => decide (PySem.W.mroIn K (ga K c) (.type "object") = some true) && eqO (PySem.W.findIn K (.ref (ga K c)) "__class__") (some (some (.builtin "object.__class__"))), nilB, mostB,
  fun K => (["__iadd__", "__add__", "__radd__", "__or__", "__ror__", "__and__", "__rand__", "__sub__", "__rsub__", "__xor__", "__rxor__", "__mul__", "__rmul__", "__len__"] : List Str).all fun m => ownB K "Row" m,
  fun K => (["number", "ranks", "within", "blocks", "__eq__", "__getitem__", "stretch", "__contains__"] : List Str).all fun m => (Fa.meth "Row" m).ok K, fun K => (["list", "tuple"] : List String).all fun t => decide (PySem.W.kitOne K (.type t) (.ref (ga K "Row")) = some false), fun K => tabB K (ga K "_law_places_right"), fun K => PySem.W.noSeq K (ga K "Row"),
  fun K => bops.all fun op => lkind.all fun t => binTB K "Row" op t && seqB K "Row" op t, fun K => binTB K "Row" .Mult "int", fun K => decide (PySem.W.subIn K (.ref (ga K "Row")) (.type "int") = some false),
  fun K => ([("Row", "Item"), ("BadPlace", "Item"), ("Item", "Row")] : List (Str × Str)).all fun p => decide (PySem.W.kitOne K (.ref (ga K p.1)) (.ref (ga K p.2)) = some false), fun K => (["Row", "BadPlace"] : List Str).all fun c => decide (PySem.W.kitOne K (.ref (ga K c)) (.type "int") = some false),
  fun K => (["NoneType", "int", "str", "bool", "dict", "list", "tuple"] : List String).all fun t => decide (PySem.W.kitOne K (.type t) (.ref (ga K "Row")) = some false) && PySem.W.notFirst K (ga K "Row") (.type t), fun K => PySem.W.notFirst K (ga K "Row") (.ref (ga K "Item"))]
/-- what the walk asks of the written part and of the module's names -/
structure Txt (K : Fg) (mg : Str → Option Value) : Prop where
  c : SaysZ fs fn K
  gl : ∀ x, (Fa.glo x).ok K = true → mg x = some (.ref (ga K x))
  fr : ∀ x, (Fa.free x).ok K = true → mg x = none
  nt : ∀ x i, (Fa.int x i).ok K = true → ∃ t, mg x = some (.int i t)
  tx : ∀ x z, (Fa.str x z).ok K = true → ∃ t, mg x = some (.str z t)
section
variable {K : Fg} {mg : Str → Option Value}
theorem Txt.cl (T : Txt K mg) {x : Str} (h : x ∈ clss) : mg x = some (.ref (ga K x)) := T.gl x (of_all (f := fun x => (Fa.glo x).ok K) (T.c.fact 0) h)
theorem Txt.fn (T : Txt K mg) {x : Str} (h : x ∈ fnames) : mg x = some (.ref (ga K x)) := T.gl x (of_all (f := fun x => (Fa.glo x).ok K) (T.c.fact 1) h)
theorem Txt.bl (T : Txt K mg) {x : Str} (h : x ∈ blts) : mg x = none := T.fr x (of_all (f := fun x => (Fa.free x).ok K) (T.c.fact 2) h)
theorem Txt.beyond (T : Txt K mg) : ∃ t, mg "BEYOND" = some (.int K04.beyond t) := T.nt _ _ (T.c.fact 3)
theorem Txt.longest (T : Txt K mg) : ∃ t, mg "LONGEST" = some (.int 8 t) := T.nt _ _ (T.c.fact 4)
theorem Txt.letters (T : Txt K mg) : ∃ t, mg "LETTERS" = some (.str K04.letters t) := T.tx _ _ (T.c.fact 5)
theorem Txt.xc (T : Txt K mg) {e : Str × Nat × Str} (h : e ∈ errs) : XC K (ga K e.1) := xc_ok (of_all (f := fun e : Str × Nat × Str => (Fy.xc e.1).ok K) (T.c.fact 6) h)
theorem Txt.xo (T : Txt K mg) : XO K := xo_ok (T.c.fact 7)
theorem Txt.ini (T : Txt K mg) {e : Str × Nat × Str} (h : e ∈ errs) : PySem.W.findIn K (.ref (ga K e.1)) "__init__" = some (some (.ref (ma K (ga K e.1) "__init__"))) ∧ PySem.W.typeIn K (.ref (ma K (ga K e.1) "__init__")) = some (.type "function") := ini_ok (of_all (f := fun e : Str × Nat × Str => (Fy.ini e.1).ok K) (T.c.fact 8) h)
theorem Txt.no (T : Txt K mg) {e : Str × Nat × Str} (h : e ∈ errs) : PySem.W.findIn K (.ref (ga K e.1)) e.2.2 = some none := names_ok (of_all (f := fun e : Str × Nat × Str => (Fy.names e.1 [e.2.2]).ok K) (T.c.fact 9) h) List.mem_cons_self
theorem Txt.kit (T : Txt K mg) {e d : Str × Nat × Str} (h : e ∈ errs) (g : d ∈ errs) : PySem.W.kitOne K (.ref (ga K e.1)) (.ref (ga K d.1)) = some (decide (e.1 = d.1)) := kit_ok (of_all (f := fun d : Str × Nat × Str => (Fy.kit e.1 d.1 (decide (e.1 = d.1))).ok K) (of_all (f := fun e : Str × Nat × Str => errs.all fun d => (Fy.kit e.1 d.1 (decide (e.1 = d.1))).ok K) (T.c.fact 10) h) g)
theorem Txt.exm (T : Txt K mg) {e : Str × Nat × Str} (h : e ∈ errs) : PySem.W.exmOne K (.ref (ga K e.1)) (.ref (ga K "HeadsError")) = some true := of_decide_eq_true (of_all (f := fun e : Str × Nat × Str => decide (PySem.W.exmOne K (.ref (ga K e.1)) (.ref (ga K "HeadsError")) = some true)) (T.c.fact 11) h)
theorem Txt.kind (T : Txt K mg) {t : String} (h : t ∈ kinds) : PySem.W.kitOne K (.type t) (.ref (ga K "Item")) = some false ∧ ∀ e ∈ errs, PySem.W.kitOne K (.type t) (.ref (ga K e.1)) = some false := by
  obtain ⟨a, b⟩ := ba (List.all_eq_true.mp (T.c.fact 12) t h)
  exact ⟨of_decide_eq_true a, fun e he => of_decide_eq_true (List.all_eq_true.mp b e he)⟩
theorem Txt.kitII (T : Txt K mg) : PySem.W.kitOne K (.ref (ga K "Item")) (.ref (ga K "Item")) = some true := kit_ok (T.c.fact 13)
theorem Txt.kitRR (T : Txt K mg) : PySem.W.kitOne K (.ref (ga K "Row")) (.ref (ga K "Row")) = some true := kit_ok (T.c.fact 14)
theorem Txt.nfR (T : Txt K mg) : PySem.W.notFirst K (ga K "Row") (.ref (ga K "Row")) = true := T.c.fact 15
theorem Txt.cls (T : Txt K mg) : Cls K (ga K "Item") := cls_ok (T.c.fact 16)
theorem Txt.mkI (T : Txt K mg) : Mk K (ga K "Item") (ma K (ga K "Item") "__init__") := mkr_ok (T.c.fact 17)
theorem Txt.na (T : Txt K mg) {f : Str} (h : f ∈ (["rank", "name"] : List Str)) : NoAttr K (ga K "Item") f := noat_ok (List.all_eq_true.mp (T.c.fact 18) f h)
theorem Txt.mtB (T : Txt K mg) : Meth K (ga K "Item") "before" (ma K (ga K "Item") "before") := meth_ok (T.c.fact 19)
theorem Txt.clsR (T : Txt K mg) : Cls K (ga K "Row") := cls_ok (T.c.fact 20)
theorem Txt.mkR (T : Txt K mg) : Mk K (ga K "Row") (ma K (ga K "Row") "__init__") := mkr_ok (T.c.fact 21)
theorem Txt.naR (T : Txt K mg) : NoAttr K (ga K "Row") "state" := noat_ok (T.c.fact 22)
theorem Txt.mtR (T : Txt K mg) {m : Str} (h : m ∈ (["listed", "__iter__"] : List Str)) : Meth K (ga K "Row") m (ma K (ga K "Row") m) := meth_ok (List.all_eq_true.mp (T.c.fact 23) m h)
theorem Txt.ob (T : Txt K mg) {c : Str} (h : c ∈ (["Item", "Row"] : List Str)) : PySem.W.mroIn K (ga K c) (.type "object") = some true ∧ PySem.W.findIn K (.ref (ga K c)) "__class__" = some (some (.builtin "object.__class__")) := by
  obtain ⟨a, b⟩ := ba (List.all_eq_true.mp (T.c.fact 24) c h)
  exact ⟨of_decide_eq_true a, eqO_ok b⟩
theorem Txt.nil (T : Txt K mg) (H : Hp) : SqT K H (nilAt K) [] := nilB_ok (T.c.fact 25) H
theorem Txt.most (T : Txt K mg) : ∃ u, Con K (ga K "Row") "MOST" (.int 200) u := mostB_ok (T.c.fact 26)
theorem Txt.own (T : Txt K mg) {m : Str} (h : m ∈ (["__iadd__", "__add__", "__radd__", "__or__", "__ror__", "__and__", "__rand__", "__sub__", "__rsub__", "__xor__", "__rxor__", "__mul__", "__rmul__", "__len__"] : List Str)) : OwnB K (ga K "Row") m (ma K (ga K "Row") m) := ownB_ok (List.all_eq_true.mp (T.c.fact 27) m h)
theorem Txt.tab1 (T : Txt K mg) : tabB K (ga K "_law_places_right") = true := T.c.fact 30
theorem Txt.noSeq (T : Txt K mg) : PySem.W.noSeq K (ga K "Row") = true := T.c.fact 31
theorem Txt.mtR2 (T : Txt K mg) {m : Str} (h : m ∈ (["number", "ranks", "within", "blocks", "__eq__", "__getitem__", "stretch", "__contains__"] : List Str)) : Meth K (ga K "Row") m (ma K (ga K "Row") m) := meth_ok (List.all_eq_true.mp (T.c.fact 28) m h)
theorem Txt.kitR (T : Txt K mg) {t : String} (h : t ∈ (["list", "tuple"] : List String)) : PySem.W.kitOne K (.type t) (.ref (ga K "Row")) = some false := of_decide_eq_true (List.all_eq_true.mp (T.c.fact 29) t h)
theorem Txt.binT (T : Txt K mg) {op : Operator} {t : String} (h : op ∈ bops) (h2 : t ∈ lkind) : BinT K (ga K "Row") op t ∧ seqB K "Row" op t = true := by
  obtain ⟨h3, h4⟩ := ba (List.all_eq_true.mp (List.all_eq_true.mp (T.c.fact 32) op h) t h2)
  exact ⟨binTB_ok h3, h4⟩
theorem Txt.mulT (T : Txt K mg) : BinT K (ga K "Row") .Mult "int" := binTB_ok (T.c.fact 33)
theorem Txt.mulS (T : Txt K mg) : PySem.W.subIn K (.ref (ga K "Row")) (.type "int") = some false := of_decide_eq_true (T.c.fact 34)
theorem Txt.kitC (T : Txt K mg) {p : Str × Str} (h : p ∈ ([("Row", "Item"), ("BadPlace", "Item"), ("Item", "Row")] : List (Str × Str))) : PySem.W.kitOne K (.ref (ga K p.1)) (.ref (ga K p.2)) = some false := of_decide_eq_true (List.all_eq_true.mp (T.c.fact 35) p h)
theorem Txt.kitI (T : Txt K mg) {c : Str} (h : c ∈ (["Row", "BadPlace"] : List Str)) : PySem.W.kitOne K (.ref (ga K c)) (.type "int") = some false := of_decide_eq_true (List.all_eq_true.mp (T.c.fact 36) c h)
theorem Txt.kitT7 (T : Txt K mg) {t : String} (h : t ∈ (["NoneType", "int", "str", "bool", "dict", "list", "tuple"] : List String)) : PySem.W.kitOne K (.type t) (.ref (ga K "Row")) = some false ∧ PySem.W.notFirst K (ga K "Row") (.type t) = true := by
  obtain ⟨a, b⟩ := ba (List.all_eq_true.mp (T.c.fact 37) t h)
  exact ⟨of_decide_eq_true a, b⟩
theorem Txt.nfI (T : Txt K mg) : PySem.W.notFirst K (ga K "Row") (.ref (ga K "Item")) = true := T.c.fact 38
end
abbrev s_draw : Stmt := topS 30
abbrev N_draw : List Str := ["_law_pen_here", "_law_many", "_law_digit", "_law_at", "_law_cell", "_law_great", "_law_mixed"]
theorem sc_draw : FnScope N_draw ["_law_pen_here", "_law_many"] (defScope s_draw) := ⟨rfl, rfl, rfl, by decide +kernel, rfl, by decide +kernel, by decide +kernel⟩
section
variable {P : Program} {w : World} {K : Fg} {mg : Str → Option Value} {base : Heap}
theorem ok_draw {f : Addr} {fd : FuncData} (F : FnP K "_law_draw" "_law_draw" s_draw f fd) (T : Txt K mg) : FnOk P w K mg base CX0 1 f fd ["_law_pen_here", "_law_many"] spDrawL := by
  have zint : mg "int" = none := T.bl (by decide +kernel)
  have zlen : mg "len" = none := T.bl (by decide +kernel)
  have zabs : mg "abs" = none := T.bl (by decide +kernel)
  refine F.ok sc_draw (fun vs H Q E h => ?_) (fun cdv A outer s H vs Q E hr h => ?_)
  · obtain ⟨p, l, m, c, rfl, _⟩ := h
    rfl
  · obtain ⟨p, l, m, c, rfl, hm0, hm1, ⟨ns, i, g, hp, hl, hlp, hn, hi0, hic, hg0⟩, hc, k⟩ := h
    have hsp : SqL K H p [.ref l, .int i, .int g] := SqL.of hp
    have hsl : SqL K H l (ns.map V.int) := SqL.of hl
    refine ⟨_, PSs.nox (pss_cons (ps_if (pt_cmpR op_gt (pe_ix ix_list (pv 0) pe_int (fun _ _ => rfl)) pe_int (nomark _)) (pss_cons (ps_set (i := 2) sc_draw.nd rfl (Or.inl rfl) (pe_op op_mod (pe_callTy call_int1 (by rfl) zint (by decide +kernel) (pa_cons (pe_ix ix_list (pv 0) pe_int (fun _ _ => rfl)) pa_nil)) (pv 1)))
    (pss_cons (ps_asg (pe_op op_fdiv (pe_callTy call_int1 (by rfl) zint (by decide +kernel) (pa_cons (pe_ix ix_list (pv 0) pe_int (fun _ _ => rfl)) pa_nil)) (pv 1)) (pg_sub (pv 0) pe_int set_list))
    (pss_one (ps_ret (pv 2))))) pss_nil)
    (pss_cons (ps_set (i := 3) sc_draw.nd rfl (Or.inl rfl) (pe_ix ix_list (pv 0) pe_int (fun _ _ => rfl)))
    (pss_cons (ps_asg (pe_op op_add (pv 3) pe_int) (pg_sub (pv 0) pe_int set_list))
    (pss_cons (ps_set (i := 4) sc_draw.nd rfl (Or.inl rfl) (pe_op op_add (pe_op op_mul pe_int (pv 3)) pe_int))
    (pss_mid (ps_if (pt_cmpR (op_neD hr.units) (pe_ix ix_list (pv 0) pe_int (fun _ _ => rfl)) (pe_lst pa_nil) (nomark _)) (pss_one (ps_set (i := 4) sc_draw.nd rfl (Or.inl rfl) (pe_ix ix_list (pe_ix ix_list (pv 0) pe_int (fun _ _ => rfl)) (pe_op op_mod (pe_callTy call_int1 (by rfl) zint (by decide +kernel) (pa_cons (pv 3) pa_nil)) (pe_callB call_len (by rfl) zlen (by decide +kernel) (pa_cons (pe_ix ix_list (pv 0) pe_int (fun _ _ => rfl)) pa_nil))) (fun _ _ => rfl)))) pss_nil)
    (pss_mid (ps_if (PW.pt (pw_and (pt_cmpR op_lt (pv 3) (pe_callB call_len (by rfl) zlen (by decide +kernel) (pa_cons (pe_ix ix_list (pv 0) pe_int (fun _ _ => rfl)) pa_nil)) (nomark _)) (pw_and1 (pt_cmpR op_ge (pe_callB call_abs (by rfl) zabs (by decide +kernel) (pa_cons (pv 4) pa_nil)) (pe_op op_pow pe_int pe_int) (nomark _))))) (pss_cons (ps_set (i := 5) sc_draw.nd rfl (Or.inl rfl) (pe_op op_add (pe_op op_mul pe_int (pe_op op_sub (pe_callB call_abs (by rfl) zabs (by decide +kernel) (pa_cons (pv 4) pa_nil)) (pe_op op_pow pe_int pe_int))) (pe_callTy call_int1 (by rfl) zint (by decide +kernel) (pa_cons (pe_cmpR op_lt (pv 4) pe_int (nomark _)) pa_nil))))
    (pss_cons (ps_asg (pe_op op_fdiv (pe_callTy call_int1 (by rfl) zint (by decide +kernel) (pa_cons (pv 5) pa_nil)) (pv 1)) (pg_sub (pv 0) pe_int set_list))
    (pss_one (ps_ret (pe_op op_mod (pe_callTy call_int1 (by rfl) zint (by decide +kernel) (pa_cons (pv 5) pa_nil)) (pv 1)))))) pss_nil)
    (pss_mid (ps_set (i := 6) sc_draw.nd rfl (Or.inl rfl) (pe_op op_mod (pe_callTy call_int1 (by rfl) zint (by decide +kernel) (pa_cons (pe_op op_pow (pe_op op_add (pe_op op_add (pe_op op_mod (pe_callTy call_int1 (by rfl) zint (by decide +kernel) (pa_cons (pv 4) pa_nil)) pe_int) (pe_op op_mul pe_int (pv 3))) pe_int) pe_int) pa_nil)) pe_int))
    (pss_mid (ps_set (i := 6) sc_draw.nd rfl (Or.inl rfl) (pe_op op_mod (pe_callTy call_int1 (by rfl) zint (by decide +kernel) (pa_cons (pe_op op_pow (pe_op op_add (pe_op op_add (pe_op op_mul (pv 6) (pe_op op_add (pe_op op_mul pe_int (pv 3)) pe_int)) (pe_op op_mul (pe_op op_mul pe_int (pv 3)) (pv 3))) pe_int) pe_int) pa_nil)) pe_int))
    (pss_one (ps_ret (pe_op op_mod (pe_callTy call_int1 (by rfl) zint (by decide +kernel) (pa_cons (pe_op op_fdiv (pv 6) pe_int) pa_nil)) (pv 1)))))))))))), ?_⟩
    -- if pen[2] > 0
    refine ⟨_, rfl, p, _, 2, .int g, rfl, rfl, hsp, rfl, _, _, rfl, rfl, _, rfl, ?_⟩
    refine ite2 (fun hgt => ?_) (fun hle => ?_)
    · refine ⟨_, rfl, p, _, 2, .int g, rfl, rfl, hsp, rfl, .inl ⟨g, rfl, _, rfl, g, m, rfl, rfl, hm0, ?_⟩⟩
      refine ⟨_, rfl, p, _, 2, .int g, rfl, rfl, hsp, rfl, .inl ⟨g, rfl, _, rfl, g, m, rfl, rfl, ⟨hm0, hm1⟩, ?_⟩⟩
      refine ⟨_, rfl, p, _, 2, 2, rfl, rfl, hp, rfl, _, rfl, ?_⟩
      refine k (g % m) _ (Int.emod_nonneg _ (by omega)) (Int.emod_lt_of_pos _ hm0) ⟨ns, i, g / m, upd_same, by rw [upd_ne hlp]; exact hl, hlp, hn, hi0, by omega, Int.ediv_nonneg hg0 (by omega)⟩ But.upd
    · -- at = pen[1]; pen[1] = at + 1; cell = ..
      refine ⟨_, rfl, p, _, 1, .int i, rfl, rfl, hsp, rfl, ?_⟩
      refine ⟨_, rfl, i, 1, rfl, rfl, _, rfl, p, _, 1, 1, rfl, rfl, hp, rfl, ?_⟩
      refine ⟨_, rfl, _, i, rfl, rfl, .inl ⟨by decide, by decide⟩, _, _, rfl, rfl, ?_⟩
      have hp1 : (upd H p (.lst ([V.ref l, .int i, .int g].set 1 (.int (i + 1))))) p = some (.lst [.ref l, .int (i + 1), .int g]) := upd_same
      have hl1 : (upd H p (.lst ([V.ref l, .int i, .int g].set 1 (.int (i + 1))))) l = some (.lst (ns.map V.int)) := by rw [upd_ne hlp]; exact hl
      have b1 : But p H (upd H p (.lst ([V.ref l, .int i, .int g].set 1 (.int (i + 1))))) := But.upd
      generalize upd H p (.lst ([V.ref l, .int i, .int g].set 1 (.int (i + 1)))) = H1 at hp1 hl1 b1 ⊢
      -- if pen[0] != []
      refine ⟨fun σ' H' => ∃ z : Int, σ' = [some (.ref p), some (.int m), none, some (.int i), some (.int z), none, none] ∧ H' p = some (.lst [.ref l, .int (i + 1), .int g]) ∧ H' l = some (.lst (ns.map V.int)) ∧ But p H H', ?_, ?_⟩
      · refine ⟨_, rfl, p, _, 0, .ref l, rfl, rfl, SqL.of hp1, rfl, (by show 0 ≤ sizeLine; decide), fun q hq => ?_⟩
        have hq1 : p ≠ q := ne_of_none hp1 hq
        have hq2 : l ≠ q := ne_of_none hl1 hq
        have hp2 : (upd H1 q (.lst [])) p = some (.lst [.ref l, .int (i + 1), .int g]) := by rw [upd_ne hq1]; exact hp1
        have hl2 : (upd H1 q (.lst [])) l = some (.lst (ns.map V.int)) := by rw [upd_ne hq2]; exact hl1
        have hq3 : (upd H1 q (.lst [])) q = some (.lst []) := upd_same
        have b2 : But p H (upd H1 q (.lst [])) := b1.trans (But.of (same_new hq))
        generalize upd H1 q (.lst []) = H2 at hp2 hl2 hq3 b2 ⊢
        refine ⟨_, _, .lst (SqL.of hl2) (dp_ints ns), .lst (SqL.of hq3) .nil, shaped_ints ns, shaped_ints [], _, rfl, ?_⟩
        refine ite2 (fun hne => ?_) (fun _ => ⟨_, rfl, hp2, hl2, b2⟩)
        have hns : 0 < ns.length := by
          cases ns with
          | nil => exact absurd hne (by decide)
          | cons n r => exact Nat.succ_pos _
        have hz : (0 : Int) < ((ns.map V.int).length : Int) := by rw [List.length_map]; omega
        have j0 := Int.emod_nonneg i (Int.ne_of_gt hz)
        have j1 := Int.emod_lt_of_pos i hz
        obtain ⟨z, ez⟩ : ∃ z, (ns.map V.int)[(i % ((ns.map V.int).length : Int)).toNat]? = some (V.int z) := by
          rw [List.length_map] at j0 j1 ⊢
          have hlt : (i % (ns.length : Int)).toNat < ns.length := by omega
          exact ⟨ns[(i % (ns.length : Int)).toNat], by rw [List.getElem?_map, List.getElem?_eq_getElem hlt]; rfl⟩
        exact ⟨_, rfl, p, _, 0, .ref l, rfl, rfl, SqL.of hp2, rfl, _, rfl, .inl ⟨i, rfl, _, rfl, p, _, 0, .ref l, rfl, rfl, SqL.of hp2, rfl, _, _, rfl, .inl ⟨_, SqL.of hl2, rfl⟩, _, _, rfl, rfl, hz, l, _, _, .int z, rfl, rfl, SqL.of hl2, atI_of j0 ez, _, rfl, hp2, hl2, b2⟩⟩
      · rintro σ2 H2 ⟨z, rfl, hp2, hl2, b2⟩
        -- if at < len(pen[0]) and abs(cell) >= 10 ** 18
        refine ⟨fun σ' H' => σ' = [some (.ref p), some (.int m), none, some (.int i), some (.int z), none, none] ∧ H' = H2, ?_, ?_⟩
        · refine ⟨_, rfl, _, rfl, p, _, 0, .ref l, rfl, rfl, SqL.of hp2, rfl, _, _, rfl, .inl ⟨_, SqL.of hl2, rfl⟩, _, _, rfl, rfl, _, rfl, ?_⟩
          refine ite2 (fun _ => ?_) (fun _ => ⟨rfl, rfl⟩)
          refine ⟨_, rfl, _, rfl, _, _, rfl, rfl, ⟨by decide, by decide, by decide⟩, _, _, rfl, rfl, _, rfl, ?_⟩
          refine ite2 (fun hgr => ?_) (fun _ => ⟨rfl, rfl⟩)
          have hgr' := of_decide_eq_true hgr
          refine ⟨_, rfl, _, rfl, _, _, rfl, rfl, ⟨by decide, by decide, by decide⟩, _, _, rfl, rfl, _, _, rfl, rfl, .inl ⟨by decide, by decide⟩, _, rfl, _, _, rfl, rfl, .inr ⟨_, rfl, _, _, rfl, rfl, ?_⟩⟩
          refine ⟨_, rfl, .inl ⟨_, rfl, _, rfl, _, _, rfl, rfl, ⟨hm0, hm1⟩, _, rfl, p, _, 2, 2, rfl, rfl, hp2, rfl, ?_⟩⟩
          refine ⟨_, rfl, .inl ⟨_, rfl, _, rfl, _, _, rfl, rfl, hm0, ?_⟩⟩
          have hpos : (0 : Int) ≤ 2 * ((if z < 0 then -z else z) - 10 ^ (18 : Int).toNat) + (if decide (z < 0) = true then 1 else 0) := by
            have h2 : (0 : Int) ≤ (if decide (z < 0) = true then 1 else 0) := by split <;> decide
            omega
          exact k _ _ (Int.emod_nonneg _ (Int.ne_of_gt hm0)) (Int.emod_lt_of_pos _ hm0) ⟨ns, i + 1, _, upd_same, by rw [upd_ne hlp]; exact hl2, hlp, hn, by omega, by omega, Int.ediv_nonneg hpos (Int.le_of_lt hm0)⟩ (b2.trans But.upd)
        · rintro σ3 H3 ⟨rfl, rfl⟩
          -- the two mixings
          refine ⟨fun σ' H' => ∃ x : Int, σ' = [some (.ref p), some (.int m), none, some (.int i), some (.int z), none, some (.int x)] ∧ H' = H3 ∧ 0 ≤ x ∧ x < 2147483648, ?_, ?_⟩
          · refine ⟨_, rfl, .inl ⟨_, rfl, _, _, rfl, rfl, (by show (0 : Int) < _; decide), _, rfl, _, _, rfl, rfl, .inl ⟨by decide, by decide⟩, _, _, rfl, rfl, _, _, rfl, rfl, _, _, rfl, rfl, ⟨by decide, by decide, ?_⟩, .inl ⟨_, rfl, _, _, rfl, rfl, (by show (0 : Int) < _; decide), _, rfl, rfl, Int.emod_nonneg _ (by decide), Int.lt_trans (Int.emod_lt_of_pos _ (by decide)) (by decide)⟩⟩⟩
            apply pow_ok <;> omega
          rintro σ4 H4 ⟨x, rfl, rfl, x0, x1⟩
          have hi6 : i ≤ 1000000 := by omega
          have q1 := mul_le' x0 (Int.le_of_lt x1) (show (0 : Int) ≤ 2 * i by omega) (show 2 * i ≤ 2000000 by omega)
          have q2 := mul_le' hi0 hi6 hi0 hi6
          refine ⟨fun σ' H' => ∃ y : Int, σ' = [some (.ref p), some (.int m), none, some (.int i), some (.int z), none, some (.int y)] ∧ H' = H4, ?_, ?_⟩
          · refine ⟨_, rfl, _, rfl, _, _, rfl, rfl, .inl ⟨by decide, by decide⟩, _, _, rfl, rfl, _, _, rfl, rfl, .inl ⟨by omega, by omega⟩, _, rfl, _, _, rfl, rfl, .inl ⟨by decide, by decide⟩, _, rfl, _, _, rfl, rfl, .inl ⟨by omega, by omega⟩, _, _, rfl, rfl, _, _, rfl, rfl, _, _, rfl, rfl, ⟨by decide, by decide, ?_⟩, .inl ⟨_, rfl, _, _, rfl, rfl, (by show (0 : Int) < _; decide), _, rfl, rfl⟩⟩
            rw [Int.mul_add, Int.mul_assoc _ i i]
            apply pow_ok <;> omega
          rintro σ5 H5 ⟨y, rfl, rfl⟩
          refine ⟨_, rfl, _, _, rfl, rfl, ⟨by decide, by decide⟩, .inl ⟨_, rfl, _, rfl, _, _, rfl, rfl, hm0, ?_⟩⟩
          exact k _ _ (Int.emod_nonneg _ (Int.ne_of_gt hm0)) (Int.emod_lt_of_pos _ hm0) ⟨ns, i + 1, g, hp2, hl2, hlp, hn, by omega, by omega, hg0⟩ b2
end
abbrev s_pen : Stmt := topS 29
abbrev N_pen : List Str := ["_law_script"]
theorem sc_pen : FnScope N_pen ["_law_script"] (defScope s_pen) := ⟨rfl, rfl, rfl, by decide +kernel, rfl, by decide +kernel, by decide +kernel⟩
abbrev s_pick : Stmt := topS 31
abbrev N_pick : List Str := ["_law_pen_here", "_law_some"]
theorem sc_pick : FnScope N_pick ["_law_pen_here", "_law_some"] (defScope s_pick) := ⟨rfl, rfl, rfl, by decide +kernel, rfl, by decide +kernel, by decide +kernel⟩
section
variable {P : Program} {w : World} {K : Fg} {mg : Str → Option Value} {base : Heap}
theorem ok_pen {f : Addr} {fd : FuncData} (F : FnP K "_law_pen" "_law_pen" s_pen f fd) (T : Txt K mg) : FnOk P w K mg base CX0 1 f fd ["_law_script"] (spPenL K) := by
  have zlist : mg "list" = none := T.bl (by decide +kernel)
  refine F.ok sc_pen (fun vs H Q E h => ?_) (fun cdv A outer s H vs Q E hr h => ?_)
  · obtain ⟨a, ns, rfl, _⟩ := h
    rfl
  · obtain ⟨a, ns, rfl, hS, hn, k⟩ := h
    obtain ⟨ms, em, hm⟩ := cut_ints ns none (some 63)
    refine ⟨_, PSs.nox (pss_one (ps_ret (pe_lst (pa_cons (pe_callTy call_list_of (by rfl) zlist (by decide +kernel) (pa_cons (pe_slice sl_list (pv 0) po_none (po_some pe_int)) pa_nil)) (pa_cons pe_int (pa_cons pe_int pa_nil)))))), ?_⟩
    refine ⟨_, rfl, _, rfl, a, _, rfl, hS, fun q hq => ⟨q, _, rfl, .inl (SqL.of upd_same), fun l hl => ⟨sz1000 (by show 3 ≤ 1000; decide), fun p hp => ?_⟩⟩⟩
    rw [em] at hl hp ⊢
    have s1 := same_new (o := .lst (ms.map V.int)) hq
    have s2 := same_new (o := .lst (ms.map V.int)) hl
    have s3 := same_new (o := .lst [.ref l, .int 0, .int 0]) hp
    have hl' : (upd (upd H q (.lst (ms.map V.int))) l (.lst (ms.map V.int))) l = some (.lst (ms.map V.int)) := upd_same
    exact k p l _ ((s1.trans s2).free hp) ⟨ms, 0, 0, upd_same, s3 _ _ hl', ne_of_none hl' hp, by omega, by decide, by decide, by decide⟩ ((s1.trans s2).trans s3)
theorem ok_pick {f fD : Addr} {fd fdD : FuncData} (F : FnP K "_law_pick" "_law_pick" s_pick f fd) (FD : FnP K "_law_draw" "_law_draw" s_draw fD fdD) (gD : mg "_law_draw" = some (.ref fD)) (T : Txt K mg) : FnOk P w K mg base CX0 2 f fd ["_law_pen_here", "_law_some"] (spPickL K) := by
  have zlen : mg "len" = none := T.bl (by decide +kernel)
  have G_draw : FnOk P w K mg base CX0 1 fD fdD ["_law_pen_here", "_law_many"] spDrawL := ok_draw FD T
  have b_draw : Binds K fdD ["_law_pen_here", "_law_many"] [] := FD.bindsN fun _ _ _ _ _ _ us hl => match us, hl with | [_, _], _ => rfl
  refine F.ok sc_pick (fun vs H Q E h => ?_) (fun cdv A outer s H vs Q E hr h => ?_)
  · obtain ⟨p, l, q, xs, c, rfl, _⟩ := h
    rfl
  · obtain ⟨p, l, q, xs, c, rfl, hS, hqp, hx0, hx1, hP, hc, k⟩ := h
    refine ⟨_, PSs.nox (pss_one (ps_ret (pe_ix ix_list (pv 1) (pe_call G_draw (hr.mono (by decide)) rfl gD FD.kp b_draw .nil pass0 (pa_cons (pv 0) (pa_cons (pe_callB call_len (by rfl) zlen (by decide +kernel) (pa_cons (pv 1) pa_nil)) pa_nil))) (fun _ _ => rfl)))), ?_⟩
    refine ⟨_, rfl, _, rfl, _, rfl, _, _, rfl, .inl ⟨xs, hS, rfl⟩, p, l, (xs.length : Int), c, rfl, by omega, by omega, hP, hc, fun r H' h0 h1 hP' hB => ?_⟩
    have hlt : r.toNat < xs.length := by omega
    exact ⟨q, xs, r, _, rfl, rfl, hB.seq hqp hS, atI_of h0 (List.getElem?_eq_getElem hlt), k _ H' (List.getElem_mem hlt) hP' hB⟩
end
end K04
namespace K04
open PySem PySem.Spec PyProof.Rows L2 He Tw
/-! ### the program -/
def rankOk : V → Bool
  | .int i => decide (-beyond < i) && decide (i < beyond)
  | _ => false
def textOk (z : Str) : Bool := decide (z.length ≤ 8) && z.cps.toList.all fun c => decide (c ∈ letters.cps.toList)
def nameOk : V → Bool
  | .str z => textOk z
  | _ => false
/-- an item of rank i and name z -/
def It (K : Fg) (H : Hp) (a : Addr) (i : Int) (z : Str) : Prop := ∃ dx, H a = some (.ins (ga K "Item") dx [("rank", .int i), ("name", .str z)])
theorem It.same {K : Fg} {H H' : Hp} {a : Addr} {i : Int} {z : Str} (e : Same H H') (h : It K H a i z) : It K H' a i z := by
  obtain ⟨dx, h⟩ := h
  exact ⟨dx, e _ _ h⟩
def spIni (C : Addr) (f : Str) : Sp := fun vs H Q _ => ∃ (a : Addr) (v : V), vs = [.ref a, v] ∧ H a = some (exo a C none) ∧ ∀ (d : Addr) (H' : Hp), H d = none → d ≠ a → H' a = some (exo a C (some d)) → H' d = some (exd d [(f, v)]) → But a H H' → Q .non H'
def spNum : Sp := fun vs H Q _ => ∃ (x : V) (T : String), vs = [x] ∧ Bv H x T ∧ Q (.bl (isI x)) H
def spRank : Sp := fun vs H Q _ => ∃ (x : V) (T : String), vs = [x] ∧ Bv H x T ∧ Q (.bl (rankOk x)) H
def spLet : Sp := fun vs H Q _ => ∃ (x : V) (T : String), vs = [x] ∧ Bv H x T ∧ (∀ z, x = .str z → z.length ≤ 1000) ∧ ∀ H', Same H H' → Q (.bl (nameOk x)) H'
section
variable {P : Program} {w : World} {K : Fg} {mg : Str → Option Value} {base : Heap}
abbrev s_err (i : Nat) : Stmt := inClass (topS i) 0
theorem sc_BadItem : FnScope ["self", "part"] ["self", "part"] (defScope (s_err 5)) := ⟨rfl, rfl, rfl, by decide +kernel, rfl, by decide +kernel, by decide +kernel⟩
theorem ok_BadItem {f : Addr} {fd : FuncData} (F : FnP K "__init__" "BadItem.__init__" (s_err 5) f fd) (T : Txt K mg) : FnOk P w K mg base CX0 1 f fd ["self", "part"] (spIni (ga K "BadItem") "part") := by
  have m : (("BadItem", 5, "part") : Str × Nat × Str) ∈ errs := by decide +kernel
  refine F.ok sc_BadItem (fun vs H Q E h => ?_) (fun cdv A outer s H vs Q E hr h => ?_)
  · obtain ⟨a, v, rfl, _⟩ := h
    rfl
  · obtain ⟨a, v, rfl, ha, k⟩ := h
    refine ⟨_, PSs.nox (pss_one (ps_ost (pv 0) (pv 1))), ?_⟩
    refine ⟨_, rfl, _, rfl, a, _, rfl, (T.xc m).ox, T.no m, .inl ⟨ha, fun d hd hda => k d _ hd hda upd_same (by rw [upd_ne hda]; exact upd_same) fun b o hb hba => ?_⟩⟩
    rw [upd_ne hba, upd_ne (ne_of_none hb hd)]
    exact hb
theorem sc_BadPlace : FnScope ["self", "at"] ["self", "at"] (defScope (s_err 6)) := ⟨rfl, rfl, rfl, by decide +kernel, rfl, by decide +kernel, by decide +kernel⟩
theorem ok_BadPlace {f : Addr} {fd : FuncData} (F : FnP K "__init__" "BadPlace.__init__" (s_err 6) f fd) (T : Txt K mg) : FnOk P w K mg base CX0 1 f fd ["self", "at"] (spIni (ga K "BadPlace") "at") := by
  have m : (("BadPlace", 6, "at") : Str × Nat × Str) ∈ errs := by decide +kernel
  refine F.ok sc_BadPlace (fun vs H Q E h => ?_) (fun cdv A outer s H vs Q E hr h => ?_)
  · obtain ⟨a, v, rfl, _⟩ := h
    rfl
  · obtain ⟨a, v, rfl, ha, k⟩ := h
    refine ⟨_, PSs.nox (pss_one (ps_ost (pv 0) (pv 1))), ?_⟩
    refine ⟨_, rfl, _, rfl, a, _, rfl, (T.xc m).ox, T.no m, .inl ⟨ha, fun d hd hda => k d _ hd hda upd_same (by rw [upd_ne hda]; exact upd_same) fun b o hb hba => ?_⟩⟩
    rw [upd_ne hba, upd_ne (ne_of_none hb hd)]
    exact hb
theorem sc_Disordered : FnScope ["self", "at"] ["self", "at"] (defScope (s_err 7)) := ⟨rfl, rfl, rfl, by decide +kernel, rfl, by decide +kernel, by decide +kernel⟩
theorem ok_Disordered {f : Addr} {fd : FuncData} (F : FnP K "__init__" "Disordered.__init__" (s_err 7) f fd) (T : Txt K mg) : FnOk P w K mg base CX0 1 f fd ["self", "at"] (spIni (ga K "Disordered") "at") := by
  have m : (("Disordered", 7, "at") : Str × Nat × Str) ∈ errs := by decide +kernel
  refine F.ok sc_Disordered (fun vs H Q E h => ?_) (fun cdv A outer s H vs Q E hr h => ?_)
  · obtain ⟨a, v, rfl, _⟩ := h
    rfl
  · obtain ⟨a, v, rfl, ha, k⟩ := h
    refine ⟨_, PSs.nox (pss_one (ps_ost (pv 0) (pv 1))), ?_⟩
    refine ⟨_, rfl, _, rfl, a, _, rfl, (T.xc m).ox, T.no m, .inl ⟨ha, fun d hd hda => k d _ hd hda upd_same (by rw [upd_ne hda]; exact upd_same) fun b o hb hba => ?_⟩⟩
    rw [upd_ne hba, upd_ne (ne_of_none hb hd)]
    exact hb
theorem sc_TooMany : FnScope ["self", "most"] ["self", "most"] (defScope (s_err 8)) := ⟨rfl, rfl, rfl, by decide +kernel, rfl, by decide +kernel, by decide +kernel⟩
theorem ok_TooMany {f : Addr} {fd : FuncData} (F : FnP K "__init__" "TooMany.__init__" (s_err 8) f fd) (T : Txt K mg) : FnOk P w K mg base CX0 1 f fd ["self", "most"] (spIni (ga K "TooMany") "most") := by
  have m : (("TooMany", 8, "most") : Str × Nat × Str) ∈ errs := by decide +kernel
  refine F.ok sc_TooMany (fun vs H Q E h => ?_) (fun cdv A outer s H vs Q E hr h => ?_)
  · obtain ⟨a, v, rfl, _⟩ := h
    rfl
  · obtain ⟨a, v, rfl, ha, k⟩ := h
    refine ⟨_, PSs.nox (pss_one (ps_ost (pv 0) (pv 1))), ?_⟩
    refine ⟨_, rfl, _, rfl, a, _, rfl, (T.xc m).ox, T.no m, .inl ⟨ha, fun d hd hda => k d _ hd hda upd_same (by rw [upd_ne hda]; exact upd_same) fun b o hb hba => ?_⟩⟩
    rw [upd_ne hba, upd_ne (ne_of_none hb hd)]
    exact hb
abbrev s_num : Stmt := topS 15
theorem sc_num : FnScope ["value"] ["value"] (defScope s_num) := ⟨rfl, rfl, rfl, by decide +kernel, rfl, by decide +kernel, by decide +kernel⟩
theorem ok_num {f : Addr} {fd : FuncData} (F : FnP K "is_number" "is_number" s_num f fd) (T : Txt K mg) : FnOk P w K mg base CX0 1 f fd ["value"] spNum := by
  have zisi : mg "isinstance" = none := T.bl (by decide +kernel)
  have zint : mg "int" = none := T.bl (by decide +kernel)
  have zbool : mg "bool" = none := T.bl (by decide +kernel)
  refine F.ok sc_num (fun vs H Q E h => ?_) (fun cdv A outer s H vs Q E hr h => ?_)
  · obtain ⟨x, t, rfl, _⟩ := h
    rfl
  · obtain ⟨x, t, rfl, b, k⟩ := h
    refine ⟨_, PSs.nox (pss_one (ps_ret (pe_and (pe_callB call_isA (by rfl) zisi (by decide +kernel) (pa_cons (pv 0) (pa_cons (pe_bltn (v := .ty "int") (by rfl) zint (by decide +kernel) rfl) pa_nil))) (pe_one (pe_not (pe_callB call_isA (by rfl) zisi (by decide +kernel) (pa_cons (pv 0) (pa_cons (pe_bltn (v := .ty "bool") (by rfl) zbool (by decide +kernel) rfl) pa_nil)))))))), ?_⟩
    obtain ⟨k1, k2, k3⟩ := b.kits (K := K)
    refine ⟨_, rfl, x, .ty "int", _, _, _, rfl, .ty "int", .inl b.ty, k3, _, rfl, ?_⟩
    cases x with
    | bl y => exact ⟨_, rfl, .bl y, .ty "bool", _, _, _, rfl, .ty "bool", .inl b.ty, k2, _, rfl, k⟩
    | int i => exact ⟨_, rfl, .int i, .ty "bool", _, _, _, rfl, .ty "bool", .inl b.ty, k2, _, rfl, k⟩
    | _ => exact k
abbrev s_rnk : Stmt := topS 16
theorem sc_rnk : FnScope ["value"] ["value"] (defScope s_rnk) := ⟨rfl, rfl, rfl, by decide +kernel, rfl, by decide +kernel, by decide +kernel⟩
theorem ok_rnk {f fN : Addr} {fd fdN : FuncData} (F : FnP K "is_rank" "is_rank" s_rnk f fd) (FN : FnP K "is_number" "is_number" s_num fN fdN) (gN : mg "is_number" = some (.ref fN)) (T : Txt K mg) : FnOk P w K mg base CX0 2 f fd ["value"] spRank := by
  obtain ⟨tb, gB⟩ := T.beyond
  have G_num : FnOk P w K mg base CX0 1 fN fdN ["value"] spNum := ok_num FN T
  have b_num : Binds K fdN ["value"] [] := FN.bindsN fun _ _ _ _ _ _ us hl => match us, hl with | [_], _ => rfl
  refine F.ok sc_rnk (fun vs H Q E h => ?_) (fun cdv A outer s H vs Q E hr h => ?_)
  · obtain ⟨x, t, rfl, _⟩ := h
    rfl
  · obtain ⟨x, t, rfl, b, k⟩ := h
    refine ⟨_, PSs.nox (pss_one (ps_ret (pe_and (pe_call G_num (hr.mono (by decide)) rfl gN FN.kp b_num .nil pass0 (pa_cons (pv 0) pa_nil)) (pe_one (pe_chain op_lt op_lt (pe_un un_neg (pe_glob (v := .int beyond) rfl gB ⟨_, rfl⟩)) (pv 0) (pe_glob (v := .int beyond) rfl gB ⟨_, rfl⟩)))))), ?_⟩
    refine ⟨_, rfl, x, t, rfl, b, _, rfl, ?_⟩
    cases x with
    | int i =>
      refine ⟨_, rfl, _, rfl, _, _, rfl, rfl, _, rfl, ?_⟩
      have e : rankOk (.int i) = (decide (-beyond < i) && decide (i < beyond)) := rfl
      rw [e] at k
      by_cases h1 : -beyond < i
      · rw [decide_eq_true h1, Bool.true_and] at k
        rw [if_pos (decide_eq_true h1)]
        exact ⟨_, _, rfl, rfl, k⟩
      · rw [decide_eq_false h1, Bool.false_and] at k
        rw [decide_eq_false h1]
        exact k
    | _ => exact k
end
end K04
namespace K04
open PySem PySem.Spec PyProof.Rows L2 He Tw
abbrev s_let : Stmt := topS 12
abbrev N_let : List Str := ["value", "sign"]
theorem sc_let : FnScope N_let ["value"] (defScope s_let) := ⟨rfl, rfl, rfl, by decide +kernel, rfl, by decide +kernel, by decide +kernel⟩
def inL (c : Nat) : Bool := decide (c ∈ letters.cps.toList)
theorem all_bl (l : List Nat) : ((l.map inL).all id) = l.all inL := by
  induction l with
  | nil => rfl
  | cons c r ih => rw [List.map_cons, List.all_cons, List.all_cons, ih]; rfl
section
variable {P : Program} {w : World} {K : Fg} {mg : Str → Option Value} {base : Heap}
theorem ok_let {f : Addr} {fd : FuncData} (F : FnP K "is_lettered" "is_lettered" s_let f fd) (T : Txt K mg) : FnOk P w K mg base CX0 1 f fd ["value"] spLet := by
  have zisi : mg "isinstance" = none := T.bl (by decide +kernel)
  have zstr : mg "str" = none := T.bl (by decide +kernel)
  have zlen : mg "len" = none := T.bl (by decide +kernel)
  have zall : mg "all" = none := T.bl (by decide +kernel)
  obtain ⟨tL, gL⟩ := T.longest
  obtain ⟨tS, gS⟩ := T.letters
  refine F.ok sc_let (fun vs H Q E h => ?_) (fun cdv A outer s H vs Q E hr h => ?_)
  · obtain ⟨x, t, rfl, _⟩ := h
    rfl
  · obtain ⟨x, t, rfl, b, hz, k⟩ := h
    refine ⟨_, PSs.nox (pss_cons (ps_if (PW.pt (pw_or (pt_not (pt_val (pe_callB call_isA (by rfl) zisi (by decide +kernel) (pa_cons (pv 0) (pa_cons (pe_bltn (v := .ty "str") (by rfl) zstr (by decide +kernel) rfl) pa_nil))))) (pw_or1 (pt_cmpR op_gt (pe_callB call_len (by rfl) zlen (by decide +kernel) (pa_cons (pv 0) pa_nil)) (pe_glob (v := .int 8) rfl gL ⟨_, rfl⟩) (nomark _))))) (pss_one (ps_ret pe_bl)) pss_nil)
    (pss_one (ps_ret (pe_callB (cr_all rfl) (by rfl) zall (by decide +kernel) (pa_cons (pe_lc (own := [("sign", 1)]) (g := gName 1) (tt := tYes) (by rfl) sc_let.nd (pi_str (pv 0)) (blkOk_by (own := [("sign", 1)]) (N := N_let) (sc := defScope s_let) (by decide +kernel)) (fun _ _ _ _ _ => (pg_name (i := 1) sc_let.nd rfl (Or.inl rfl))) (fun _ _ _ _ _ => pts_nil) (fun _ _ _ _ _ => (pe_cmpR op_in_sign (pv 1) (pe_glob (v := .str letters) rfl gS ⟨_, rfl⟩) rfl))) pa_nil))))), ?_⟩
    obtain ⟨k1, k2, k3⟩ := b.kits (K := K)
    refine ⟨_, rfl, x, .ty "str", _, _, _, rfl, .ty "str", .inl b.ty, k1, _, rfl, ?_⟩
    cases x with
    | str z =>
      have hl := hz z rfl
      refine ⟨_, rfl, _, _, rfl, ⟨Nat.le_trans hl (by decide), rfl⟩, _, _, rfl, rfl, _, rfl, ?_⟩
      refine ite2 (fun h => ?_) (fun h => ?_)
      · have h2 : ¬ z.length ≤ 8 := by
          have := of_decide_eq_true h
          omega
        have e : nameOk (.str z) = false := by
          show (decide (z.length ≤ 8) && _) = false
          rw [decide_eq_false h2, Bool.false_and]
        rw [e] at k
        exact k H fun _ _ q => q
      · have h2 : z.length ≤ 8 := by
          have h3 : ¬ (8 : Int) < (z.length : Int) := fun y => h (decide_eq_true y)
          omega
        have e : nameOk (.str z) = z.cps.toList.all inL := by
          show (decide (z.length ≤ 8) && _) = _
          rw [decide_eq_true h2, Bool.true_and]
          rfl
        rw [e] at k
        refine ⟨_, rfl, z, rfl, fun D hD => lcStr (fun i H' => Same H H' ∧ H' D = some (.lst (((z.cps.toList.take i).map inL).map V.bl))) ⟨same_new hD, upd_same⟩ ?_ ?_⟩
        · rintro i c H' hc ⟨sD, gD⟩
          refine ⟨rfl, _, rfl, c, letters, rfl, rfl, _, gD, ?_, ?_, ?_⟩
          · rw [List.length_map, List.length_map]
            exact Nat.lt_of_le_of_lt (List.length_take_le' _ _) (Nat.lt_of_le_of_lt (show z.cps.toList.length ≤ 8 from h2) (by decide))
          · exact fun b o hb => by
              rw [upd_ne (ne_of_none hb hD)]
              exact sD b o hb
          · have hc2 : z.cps.toList[i]? = some c := by rw [Array.getElem?_toList]; exact hc
            rw [upd_same, List.take_add_one, hc2, List.map_append, List.map_append]
            rfl
        · rintro H' ⟨sD, gD⟩
          have e2 : z.cps.toList.take z.cps.size = z.cps.toList := List.take_of_length_le (Nat.le_of_eq (by simp))
          rw [e2] at gD
          refine ⟨D, _, rfl, SqL.of gD, ?_⟩
          rw [all_bl]
          exact k H' sD
    | _ => exact k H fun _ _ q => q
end
/-- what Item.__init__ does: the fields stand, or BadItem goes out with the part -/
def spItem (K : Fg) : Sp := fun vs H Q E => ∃ (a dx : Addr) (x y : V) (t u : String), vs = [.ref a, x, y] ∧ H a = some (.ins (ga K "Item") dx []) ∧ Bv H x t ∧ Bv H y u ∧ (∀ z, y = .str z → z.length ≤ 1000) ∧
  (rankOk x = true → nameOk y = true → ∀ H', But a H H' → H' a = some (.ins (ga K "Item") dx [("rank", x), ("name", y)]) → Q .non H') ∧
  (rankOk x = false ∨ nameOk y = false → ∀ (d : Addr) (H' : Hp), Same H H' → H' d = some (.xd [("part", .str (if rankOk x = true then "name" else "rank"))]) → E (.ref (ga K "BadItem")) (some d) H')
theorem bad_out {H : Hp} {C : Addr} {z : Str} {Q : XK} {E : XK} (k : ∀ (d : Addr) (H' : Hp), Same H H' → H' d = some (.xd [("part", .str z)]) → Q (.ref C) (some d) H') :
    ([V.str z] : List V).length ≤ 1000 ∧ ∀ a, H a = none → spIni C "part" (.ref a :: (([V.str z] : List V) ++ [])) (upd H a (exo a C none)) (fun v H2 => v = .non ∧ ∃ (d : Addr) (fs : List (Str × V)), H2 a = some (exo a C (some d)) ∧ H2 d = some (exd d fs) ∧ H d = none ∧ Q (.ref C) (some d) (upd (del H2 a) d (.xd fs))) E := by
  refine ⟨(by show 1 ≤ 1000; decide), fun a ha => ⟨a, .str z, rfl, upd_same, fun d H' hd hda e1 e2 e3 => ?_⟩⟩
  rw [upd_ne hda] at hd
  refine ⟨rfl, d, _, e1, e2, hd, k d _ (fun b o hb => ?_) upd_same⟩
  have hba : b ≠ a := ne_of_none hb ha
  rw [upd_ne (ne_of_none hb hd), del_ne hba]
  exact e3 b o (by rw [upd_ne hba]; exact hb) hba
abbrev s_item : Stmt := inClass (topS 17) 0
theorem sc_item : FnScope ["self", "rank", "name"] ["self", "rank", "name"] (defScope s_item) := ⟨rfl, rfl, rfl, by decide +kernel, rfl, by decide +kernel, by decide +kernel⟩
abbrev FnI (K : Fg) (f : Addr) (fd : FuncData) : Prop := FunD K "__init__" "Item.__init__" (defArgs s_item) (defBody s_item) (defScope s_item) [.str ""] [] f fd
section
variable {P : Program} {w : World} {K : Fg} {mg : Str → Option Value} {base : Heap}
theorem ok_item {f fR fL fB : Addr} {fd fdR fdL fdB fdN : FuncData} {fN : Addr} (F : FnI K f fd) (FR : FnP K "is_rank" "is_rank" s_rnk fR fdR) (gR : mg "is_rank" = some (.ref fR)) (FN : FnP K "is_number" "is_number" s_num fN fdN) (gN : mg "is_number" = some (.ref fN))
    (FL : FnP K "is_lettered" "is_lettered" s_let fL fdL) (gL : mg "is_lettered" = some (.ref fL)) (FB : FnP K "__init__" "BadItem.__init__" (s_err 5) (ma K (ga K "BadItem") "__init__") fdB) (T : Txt K mg) : FnOk P w K mg base (L2.CX P w) 3 f fd ["self", "rank", "name"] (spItem K) := by
  have gB : mg "BadItem" = some (.ref (ga K "BadItem")) := T.cl (by decide +kernel)
  have G_rnk : FnOk P w K mg base CX0 2 fR fdR ["value"] spRank := ok_rnk FR FN gN T
  have G_let : FnOk P w K mg base CX0 1 fL fdL ["value"] spLet := ok_let FL T
  have G_bad : FnOk P w K mg base CX0 1 _ fdB ["self", "part"] (spIni (ga K "BadItem") "part") := ok_BadItem FB T
  have b_rnk : Binds K fdR ["value"] [] := FR.bindsN fun _ _ _ _ _ _ us hl => match us, hl with | [_], _ => rfl
  have b_let : Binds K fdL ["value"] [] := FL.bindsN fun _ _ _ _ _ _ us hl => match us, hl with | [_], _ => rfl
  have b_bad : Binds K fdB ["self", "part"] [] := FB.bindsN fun _ _ _ _ _ _ us hl => match us, hl with | [_, _], _ => rfl
  have mB : (("BadItem", 5, "part") : Str × Nat × Str) ∈ errs := by decide +kernel
  obtain ⟨iB, tB⟩ := T.ini mB
  refine F.ok sc_item (fun vs H Q E h => ?_) (fun cdv A outer s H vs Q E hr h => ?_)
  · obtain ⟨a, dx, x, y, t, u, rfl, _⟩ := h
    rfl
  · obtain ⟨a, dx, x, y, t, u, rfl, ha, bx, bY, hz, kn, kx⟩ := h
    refine ⟨_, (pss_cons (ps_if (pt_not (pt_val (pe_call G_rnk (hr.mono (by decide)) rfl gR FR.kp b_rnk .nil pass0 (pa_cons (pv 1) pa_nil)))) (pss_one (ps_raise rfl (takes_of rfl rfl rfl rfl) (pmk_oex (T.xc mB).ox iB tB G_bad (hr.mono (by decide)) b_bad .nil pass0 rfl gB (pa_cons pe_str pa_nil)))) pss_nil)
    (pss_cons (ps_if (pt_not (pt_val (pe_call G_let (hr.mono (by decide)) rfl gL FL.kp b_let .nil pass0 (pa_cons (pv 2) pa_nil)))) (pss_one (ps_raise rfl (takes_of rfl rfl rfl rfl) (pmk_oex (T.xc mB).ox iB tB G_bad (hr.mono (by decide)) b_bad .nil pass0 rfl gB (pa_cons pe_str pa_nil)))) pss_nil)
    (pss_cons (ps_fld (pv 0) (pv 1) rfl)
    (pss_one (ps_fld (pv 0) (pv 2) rfl))))), ?_⟩
    refine ⟨_, rfl, x, t, rfl, bx, _, rfl, ?_⟩
    cases hx : rankOk x with
    | false =>
      rw [hx] at kx
      exact bad_out (kx (.inl rfl))
    | true =>
      rw [hx] at kx kn
      refine ⟨_, rfl, y, u, rfl, bY, hz, fun H1 s1 => ⟨_, rfl, ?_⟩⟩
      cases hy : nameOk y with
      | false =>
        rw [hy] at kx
        exact bad_out fun d H' s2 hd => kx (.inr rfl) d H' (s1.trans s2) hd
      | true =>
        rw [hy] at kn
        refine ⟨_, rfl, _, rfl, a, _, dx, _, rfl, s1 _ _ ha, T.cls, T.na (by decide +kernel), (by show 0 < 1000; decide), ?_⟩
        refine ⟨_, rfl, _, rfl, a, _, dx, _, rfl, upd_same, T.cls, T.na (by decide +kernel), (by show 1 < 1000; decide), ?_⟩
        exact kn rfl rfl _ (((But.of s1).trans But.upd).trans But.upd) upd_same
end
end K04
namespace K04
open PySem PySem.Spec PyProof.Rows L2 He Tw
theorem It.ty {K : Fg} {mg : Str → Option Value} {H : Hp} (T : Txt K mg) {a : Addr} {i : Int} {z : Str} (h : It K H a i z) : TyX K H (.ref a) (.ref (ga K "Item")) := by
  obtain ⟨dx, h⟩ := h
  exact .base (.ins h T.cls (T.ob (by decide +kernel)).2 T.xo.hn T.xo.ht (T.ob (by decide +kernel)).1)
theorem bv_kind {H : Hp} {x : V} {T : String} (h : Bv H x T) : T ∈ kinds := by
  cases h <;> decide
/-- what may stand for an item: an item, a rank, or anything plain that is neither -/
inductive Vv (K : Fg) (H : Hp) : V → Option (Int × Str) → Prop where
  | item {a : Addr} {i : Int} {z : Str} (h : It K H a i z) : Vv K H (.ref a) (some (i, z))
  | int {i : Int} (h : rankOk (.int i) = true) : Vv K H (.int i) (some (i, ""))
  | bad {x : V} {t : String} (h : Bv H x t) (b : rankOk x = false) : Vv K H x none
theorem Vv.same {K : Fg} {H H' : Hp} {x : V} {o : Option (Int × Str)} (e : Same H H') (h : Vv K H x o) : Vv K H' x o := by
  cases h with
  | item h => exact .item (h.same e)
  | int h => exact .int h
  | bad h b => exact .bad (h.same e) b
/-- references to items of these ranks and names -/
def Its (K : Fg) (H : Hp) (ys : List V) (ps : List (Int × Str)) : Prop := Paired (fun y p => ∃ a, y = V.ref a ∧ It K H a p.1 p.2) ys ps
theorem Its.same {K : Fg} {H H' : Hp} (e : Same H H') : ∀ {ys : List V} {ps : List (Int × Str)}, Its K H ys ps → Its K H' ys ps
  | _, _, .nil => .nil
  | _, _, .cons ⟨a, h1, h2⟩ t => .cons ⟨a, h1, h2.same e⟩ (Its.same e t)
theorem Its.snoc {K : Fg} {H : Hp} : ∀ {ys : List V} {ps : List (Int × Str)} {a : Addr} {p : Int × Str}, Its K H ys ps → It K H a p.1 p.2 → Its K H (ys ++ [.ref a]) (ps ++ [p])
  | _, _, _, _, .nil, h => .cons ⟨_, rfl, h⟩ .nil
  | _, _, _, _, .cons x t, h => .cons x (Its.snoc t h)
/-- a row with these items -/
def RowAt (K : Fg) (H : Hp) (a : Addr) (xs : List V) : Prop := ∃ dx t, H a = some (.ins (ga K "Row") dx [("state", .ref t)]) ∧ H t = some (.tup xs)
/-- what a row can be made of -/
def Seq (K : Fg) (H : Hp) (q : Addr) (xs : List V) : Prop := SqL K H q xs ∨ SqT K H q xs ∨ RowAt K H q xs
def spAs (K : Fg) : Sp := fun vs H Q E => ∃ (q : Addr) (xs : List V) (os : List (Option (Int × Str))), vs = [.ref q] ∧ Seq K H q xs ∧ xs.length ≤ 900 ∧ os.length = xs.length ∧ (∀ (i : Nat) (x : V), xs[i]? = some x → ∃ o : Option (Int × Str), os[i]? = some o ∧ Vv K H x o) ∧
  (∀ (ps : List (Int × Str)) (l : Addr) (H' : Hp) (ys : List V), os = ps.map some → H l = none → Same H H' → H' l = some (.lst ys) → Its K H' ys ps → Q (.ref l) H') ∧
  (∀ (n : Nat) (ps : List (Int × Str)) (d : Addr) (H' : Hp), ps.length = n → (∀ (m : Nat) (p : Int × Str), ps[m]? = some p → os[m]? = some (some p)) → os[n]? = some none → Same H H' → H' d = some (.xd [("part", .int (n : Nat))]) → E (.ref (ga K "BadItem")) (some d) H')
theorem err_out {H : Hp} {C : Addr} {f : Str} {v : V} {Q : XK} {E : XK} (k : ∀ (d : Addr) (H' : Hp), Same H H' → H' d = some (.xd [(f, v)]) → Q (.ref C) (some d) H') :
    ([v] : List V).length ≤ 1000 ∧ ∀ a, H a = none → spIni C f (.ref a :: (([v] : List V) ++ [])) (upd H a (exo a C none)) (fun u H2 => u = .non ∧ ∃ (d : Addr) (fs : List (Str × V)), H2 a = some (exo a C (some d)) ∧ H2 d = some (exd d fs) ∧ H d = none ∧ Q (.ref C) (some d) (upd (del H2 a) d (.xd fs))) E := by
  refine ⟨(by show 1 ≤ 1000; decide), fun a ha => ⟨a, v, rfl, upd_same, fun d H' hd hda e1 e2 e3 => ?_⟩⟩
  rw [upd_ne hda] at hd
  refine ⟨rfl, d, _, e1, e2, hd, k d _ (fun b o hb => ?_) upd_same⟩
  have hba : b ≠ a := ne_of_none hb ha
  rw [upd_ne (ne_of_none hb hd), del_ne hba]
  exact e3 b o (by rw [upd_ne hba]; exact hb) hba
abbrev s_iter : Stmt := inClass (topS 25) 4
theorem sc_iter : FnScope ["self"] ["self"] (defScope s_iter) := ⟨rfl, rfl, rfl, by decide +kernel, rfl, by decide +kernel, by decide +kernel⟩
section
variable {P : Program} {w : World} {K : Fg} {mg : Str → Option Value} {base : Heap}
theorem ok_iter {f : Addr} {fd : FuncData} (F : FnP K "__iter__" "Row.__iter__" s_iter f fd) (T : Txt K mg) : FnN P w K mg base CX0 1 f fd ["self"] (spIter (ga K "Row") "state") := by
  have zit : mg "iter" = none := T.bl (by decide +kernel)
  refine F.okN sc_iter (fun n vs H Q E h => ?_) (fun cdv A outer s H vs Q E hr h => ?_)
  · obtain ⟨a, dx, t, fs, zs, rfl, _⟩ := h
    rfl
  · obtain ⟨a, dx, t, fs, zs, rfl, ha, hl, ht, k⟩ := h
    refine ⟨_, (pss_one (ps_ret (pe_callB call_iterT (by rfl) zit (by decide +kernel) (pa_cons (pe_fld (pv 0) rfl) pa_nil)))), ?_⟩
    exact ⟨_, rfl, a, _, dx, _, _, rfl, ha, T.clsR, T.naR, hl, t, zs, rfl, SqT.of ht, fun it H' h0 hn sm e => k it H' h0 hn sm e⟩
abbrev s_as : Stmt := topS 19
abbrev N_as : List Str := ["values", "found", "k", "value"]
theorem sc_as : FnScope N_as ["values"] (defScope s_as) := ⟨rfl, rfl, rfl, by decide +kernel, rfl, by decide +kernel, by decide +kernel⟩
/-- the item's class, its def, all ways it is called -/
structure Itm (P : Program) (w : World) (K : Fg) (mg : Str → Option Value) (base : Heap) (fd : FuncData) (d2 : List Value) : Prop where
  ok : FnOk P w K mg base (L2.CX P w) 3 (ma K (ga K "Item") "__init__") fd ["self", "rank", "name"] (spItem K)
  b : Binds K fd ["self", "rank", "name"] []
  r2 : Vals [.str ""] d2
  b2 : Binds K fd ["self", "rank", "name"] d2
/-- the row's __iter__ -/
structure Wlk (P : Program) (w : World) (K : Fg) (mg : Str → Option Value) (base : Heap) (fd : FuncData) : Prop where
  ok : FnN P w K mg base CX0 1 (ma K (ga K "Row") "__iter__") fd ["self"] (spIter (ga K "Row") "state")
  b : Binds K fd ["self"] []
theorem seq_same {K : Fg} {H H' : Hp} {q : Addr} {xs : List V} (e : Same H H') (h : Seq K H q xs) : Seq K H' q xs := by
  rcases h with h | h | ⟨dx, t, h1, h2⟩
  · exact .inl (e.seq h)
  · exact .inr (.inl (sqT_same e h))
  · exact .inr (.inr ⟨dx, t, e _ _ h1, e _ _ h2⟩)
/-- an iterator that is there -/
def iAt (J : L2.It) : TI := fun _ H R => R J H
theorem enumA_for {K : Fg} {H H1 : Hp} {ta : TA} {g : TG} {tb : TS} {D : Ends} {σ : L2.St} {q : Addr} {xs : List V} (ht : ∀ R : List V → Hp → Prop, R [.ref q] H1 → ta σ H1 R) (s1 : Same H H1) (hS : Seq K H q xs)
    (h : ∀ (G : Hp → List V → Prop) (H2 : Hp), Same H1 H2 → (∀ H', Same H H' → G H' xs) → tFor (iAt (IteG G)) g tb D σ H2) : tFor (iEnumA K (ga K "Row") "state" ta) g tb D σ H1 := by
  have rf : Same H1 H1 := fun _ _ e => e
  refine ht _ ?_
  rcases hS with g | g | ⟨dx, t, g1, g2⟩
  · exact ⟨q, rfl, .inl ⟨⟨xs, s1.seq g⟩, h _ _ rf fun H' e => e.seq g⟩⟩
  · exact ⟨q, rfl, .inr (.inl ⟨⟨xs, sqT_same s1 g⟩, h _ _ rf fun H' e => sqT_same e g⟩)⟩
  · exact ⟨q, rfl, .inr (.inr ⟨dx, t, _, xs, s1 _ _ g1, rfl, s1 _ _ g2, fun H2 s2 => h _ _ s2 fun H' e => SqT.of (e _ _ g2)⟩)⟩
theorem same_but {H H1 H2 : Hp} {a : Addr} (s : Same H H1) (b : But a H1 H2) (h : H a = none) : Same H H2 := fun c o e => b c o (s c o e) (ne_of_none e h)
theorem same_made {H : Hp} {a dx : Addr} {o u : HO} (hd : H dx = none) (ha : H a = none) (hda : dx ≠ a) : Same H (upd (upd H dx o) a u) := (same_new hd).trans (same_new (by rw [upd_ne hda.symm]; exact ha))
theorem item_mk {K : Fg} {H : Hp} {i : Int} {z : Str} {R : VK} {E : XK} {x dx : Addr} (hx : H x = none) (hd : H dx = none) (hne : dx ≠ x) (hi : rankOk (.int i) = true) (tz : nameOk (.str z) = true) (lz : z.length ≤ 1000) (k : ∀ H' : Hp, It K H' x i z → Same H H' → R .non H') :
    spItem K [.ref x, .int i, .str z] (upd (upd H dx (.own x)) x (.ins (ga K "Item") dx [])) R E := by
  refine ⟨x, dx, .int i, .str z, "int", "str", rfl, upd_same, .int i, .str z, fun y e => ?_, fun _ _ H' b e => k H' ⟨dx, e⟩ (same_but (same_made hd hx hne) b hx), fun h => ?_⟩
  · cases e
    exact lz
  · rw [hi, tz] at h
    rcases h with h | h <;> cases h
theorem it_upd {K : Fg} {H : Hp} {l a : Addr} {us : List V} {o : HO} {i : Int} {z : Str} (hl : H l = some (.lst us)) (h : It K H a i z) : It K (upd H l o) a i z := by
  obtain ⟨dx, h⟩ := h
  refine ⟨dx, ?_⟩
  rw [upd_ne (fun e => by
    rw [e, hl] at h
    cases h)]
  exact h
theorem its_upd {K : Fg} {H : Hp} {l : Addr} {us : List V} {o : HO} (hl : H l = some (.lst us)) : ∀ {ys : List V} {ps : List (Int × Str)}, Its K H ys ps → Its K (upd H l o) ys ps
  | _, _, .nil => .nil
  | _, _, .cons ⟨a, h1, h2⟩ t => .cons ⟨a, h1, it_upd hl h2⟩ (its_upd hl t)
theorem same_upd {H H' : Hp} {l : Addr} {o : HO} (s : Same H H') (h : H l = none) : Same H (upd H' l o) := fun b u e => by
  rw [upd_ne (ne_of_none e h)]
  exact s b u e
theorem ok_as {f fR fN : Addr} {fd fdR fdN fdB fdI fdW : FuncData} {d2 : List Value} (F : FnP K "as_items" "as_items" s_as f fd) (FR : FnP K "is_rank" "is_rank" s_rnk fR fdR) (gR : mg "is_rank" = some (.ref fR)) (FN : FnP K "is_number" "is_number" s_num fN fdN) (gN : mg "is_number" = some (.ref fN))
    (FB : FnP K "__init__" "BadItem.__init__" (s_err 5) (ma K (ga K "BadItem") "__init__") fdB) (I : Itm P w K mg base fdI d2) (W : Wlk P w K mg base fdW) (T : Txt K mg) : FnOk P w K mg base (L2.CX P w) 5 f fd ["values"] (spAs K) := by
  have zisi : mg "isinstance" = none := T.bl (by decide +kernel)
  have zen : mg "enumerate" = none := T.bl (by decide +kernel)
  have gB : mg "BadItem" = some (.ref (ga K "BadItem")) := T.cl (by decide +kernel)
  have gI : mg "Item" = some (.ref (ga K "Item")) := T.cl (by decide +kernel)
  have mB : (("BadItem", 5, "part") : Str × Nat × Str) ∈ errs := by decide +kernel
  obtain ⟨iB, tB⟩ := T.ini mB
  have G_rnk : FnOk P w K mg base CX0 2 fR fdR ["value"] spRank := ok_rnk FR FN gN T
  have G_bad : FnOk P w K mg base CX0 1 _ fdB ["self", "part"] (spIni (ga K "BadItem") "part") := ok_BadItem FB T
  have b_rnk : Binds K fdR ["value"] [] := FR.bindsN fun _ _ _ _ _ _ us hl => match us, hl with | [_], _ => rfl
  have b_bad : Binds K fdB ["self", "part"] [] := FB.bindsN fun _ _ _ _ _ _ us hl => match us, hl with | [_, _], _ => rfl
  have mI := T.mtR (m := "__iter__") (by decide +kernel)
  refine F.ok sc_as (fun vs H Q E h => ?_) (fun cdv A outer s H vs Q E hr h => ?_)
  · obtain ⟨q, xs, os, rfl, _⟩ := h
    rfl
  · obtain ⟨q, xs, os, rfl, hS, hn, ho, hv, kg, kb⟩ := h
    refine ⟨_, (pss_cons (ps_set (i := 1) sc_as.nd rfl (Or.inl rfl) (pe_lstN pa_nil))
    (pss_cons (ps_for (passes_of rfl) rfl (pi_enumA mI.at_ mI.fn W.ok (hr.mono (by decide)) W.b pass0 (E := E0) (by rfl) zen (pa_cons (pv 0) pa_nil)) (pg_tup (by rfl) (pgs_cons (pg_name (i := 2) sc_as.nd rfl (Or.inl rfl)) (pgs_cons (pg_name (i := 3) sc_as.nd rfl (Or.inl rfl)) pgs_nil)))
    (pss_one (ps_if (pt_val (pe_callB call_isA (by rfl) zisi (by decide +kernel) (pa_cons (pv 3) (pa_cons (pe_glob (v := .ref (ga K "Item")) rfl gI rfl) pa_nil)))) (pss_one (ps_expr (pe_bm PySem.F.plainAttrs_list PySem.F.slot_list_append PySem.F.type_list_append mt_append (pv 1) (pa_cons (pv 3) pa_nil)))) (pss_one (ps_if (pt_val (pe_call G_rnk (hr.mono (by decide)) rfl gR FR.kp b_rnk .nil pass0 (pa_cons (pv 3) pa_nil))) (pss_one (ps_expr (pe_bm PySem.F.plainAttrs_list PySem.F.slot_list_append PySem.F.type_list_append mt_append (pv 1) (pa_cons (pe_make (E := E0) T.mkI I.ok (hr.mono (by decide)) rfl gI I.b2 I.r2 passL (pa_cons (pv 3) pa_nil)) pa_nil)))) (pss_one (ps_raise rfl (takes_of rfl rfl rfl rfl) (pmk_oex (T.xc mB).ox iB tB G_bad (hr.mono (by decide)) b_bad .nil pass0 rfl gB (pa_cons (pv 2) pa_nil)))))))))
    (pss_one (ps_ret (pv 1))))), ?_⟩
    refine ⟨sz1000 (Nat.zero_le _), fun l H1 f1 m1 s1 g1 => ?_⟩
    dsimp only [gName]
    unfold tSeq
    refine enumA_for (fun R r => ⟨_, rfl, r⟩) s1 hS fun G H2 s2 still => for_enum (xs := xs) (fun i σ H' => ∃ (kv vv : Option V) (ys : List V) (ps : List (Int × Str)), σ = [some (.ref q), some (.ref l), kv, vv] ∧ Same H H' ∧ H' l = some (.lst ys) ∧ Its K H' ys ps ∧ ps.length = i ∧ ∀ (m : Nat) (p : Int × Str), ps[m]? = some p → os[m]? = some (some p))
      ⟨none, none, [], [], rfl, s1.trans s2, s2 _ _ g1, .nil, rfl, fun m p hp => nomatch hp⟩ (fun i σ H' _ ⟨_, _, _, _, _, sm, _⟩ => still H' sm) ?_ ?_
    · rintro i x t σ H3 H4 hx ⟨kv, vv, ys, ps, rfl, sm, gl, its, hl, hp⟩ ht s4 et
      obtain ⟨o, eo, hv3⟩ := hv i x hx
      have sm4 := sm.trans s4
      have hv4 := hv3.same sm4
      have gl4 := s4 _ _ gl
      have lt : ys.length < sizeLine := by
        have h1 : ys.length = ps.length := Paired.length its
        have h2 : i < xs.length := (List.getElem?_eq_some_iff.mp hx).1
        exact Nat.lt_of_lt_of_le (show ys.length < 1000 by omega) (by decide)
      have snoc : ∀ {p : Int × Str}, o = some p → ∀ (m : Nat) (p' : Int × Str), (ps ++ [p])[m]? = some p' → os[m]? = some (some p') := fun {p} e m p' hm => by
        by_cases h : m < ps.length
        · rw [List.getElem?_append_left h] at hm
          exact hp m p' hm
        · have h2 : m = ps.length := by
            have := (List.getElem?_eq_some_iff.mp hm).1
            rw [List.length_append, List.length_singleton] at this
            omega
          subst h2
          rw [List.getElem?_append_right (Nat.le_refl _), Nat.sub_self] at hm
          cases hm
          rw [hl, eo, e]
      refine ⟨t, _, rfl, SqT.of et, rfl, ?_⟩
      refine ⟨_, _, rfl, _, _, rfl, rfl, ?_⟩
      cases hv4 with
      | @item a j z h =>
        refine ⟨_, rfl, .ref a, .ref (ga K "Item"), _, _, _, rfl, .own _, .inl (h.ty T), T.kitII, _, rfl, ?_⟩
        refine ⟨_, rfl, .inl ⟨rfl, _, SqL.of gl4⟩, _, rfl, l, _, _, rfl, rfl, gl4, lt, ?_⟩
        exact ⟨_, _, ys ++ [.ref a], ps ++ [(j, z)], rfl, same_upd sm4 f1, upd_same, Its.snoc (its_upd gl4 (its.same s4)) (it_upd gl4 h), by rw [List.length_append, hl]; rfl, snoc rfl⟩
      | @int j h =>
        refine ⟨_, rfl, .int j, .ref (ga K "Item"), .type "int", _, _, rfl, .own _, .inl (.base (.int _)), (T.kind (by decide)).1, _, rfl, ?_⟩
        refine ⟨_, rfl, .int j, "int", rfl, .int j, _, rfl, ?_⟩
        rw [h]
        refine ⟨_, rfl, .inl ⟨rfl, _, SqL.of gl4⟩, _, rfl, fun x dx hx1 hd1 hne1 => item_mk hx1 hd1 hne1 h (by decide +kernel) (by decide) fun H5 I5 s5 => ⟨rfl, ?_⟩⟩
        have gl5 := s5 _ _ gl4
        refine ⟨l, _, _, rfl, rfl, gl5, lt, ?_⟩
        exact ⟨_, _, ys ++ [.ref x], ps ++ [(j, ("" : Str))], rfl, same_upd (sm4.trans s5) f1, upd_same, Its.snoc (its_upd gl5 ((its.same s4).same s5)) (it_upd gl5 I5), by rw [List.length_append, hl]; rfl, snoc rfl⟩
      | @bad x t' b nb =>
        refine ⟨_, rfl, x, .ref (ga K "Item"), .type t', _, _, rfl, .own _, .inl b.ty, (T.kind (bv_kind b)).1, _, rfl, ?_⟩
        refine ⟨_, rfl, x, t', rfl, b, _, rfl, ?_⟩
        rw [nb]
        refine ⟨_, rfl, ?_⟩
        exact err_out fun d H5 s5 e5 => kb i ps d H5 hl hp eo (sm4.trans s5) e5
    · rintro σ H3 ⟨kv, vv, ys, ps, rfl, sm, gl, its, hl, hp⟩
      refine ⟨_, rfl, kg ps l H3 ys ?_ f1 sm gl its⟩
      refine List.ext_getElem? fun m => ?_
      by_cases h : m < ps.length
      · rw [List.getElem?_map, List.getElem?_eq_getElem h]
        exact hp m _ (List.getElem?_eq_getElem h)
      · rw [List.getElem?_eq_none (by omega), List.getElem?_eq_none (by rw [List.length_map]; omega)]
end
end K04
namespace K04
open PySem PySem.Spec PyProof.Rows L2 He Tw
def spTwo (K : Fg) (f : Int → Str → Int → Str → Bool) : Sp := fun vs H Q _ => ∃ (a b : Addr) (i j : Int) (z u : Str), vs = [.ref a, .ref b] ∧ It K H a i z ∧ It K H b j u ∧ Q (.bl (f i z j u)) H
def fBefore (i : Int) (_ : Str) (j : Int) (_ : Str) : Bool := decide (i < j)
/-- in order up to n pairs -/
def Up (ps : List (Int × Str)) (n : Nat) : Prop := ∀ (m : Nat) (a b : Int × Str), m < n → ps[m]? = some a → ps[m + 1]? = some b → a.1 ≤ b.1
def spNeed (K : Fg) : Sp := fun vs H Q E => ∃ (l : Addr) (most : Int) (ys : List V) (ps : List (Int × Str)), vs = [.ref l, .int most] ∧ H l = some (.lst ys) ∧ Its K H ys ps ∧ ys.length ≤ 900 ∧
  (Up ps ps.length → (ps.length : Int) ≤ most → Q .non H) ∧
  (∀ (k : Nat) (a b : Int × Str), ps[k]? = some a → ps[k + 1]? = some b → b.1 < a.1 → Up ps k → ∀ (d : Addr) (H' : Hp), Same H H' → H' d = some (.xd [("at", .int (1 + (k : Int)))]) → E (.ref (ga K "Disordered")) (some d) H') ∧
  (Up ps ps.length → most < (ps.length : Int) → ∀ (d : Addr) (H' : Hp), Same H H' → H' d = some (.xd [("most", .int most)]) → E (.ref (ga K "TooMany")) (some d) H')
theorem its_len {K : Fg} {H : Hp} {ys : List V} {ps : List (Int × Str)} (h : Its K H ys ps) : ys.length = ps.length := Paired.length h
theorem its_at {K : Fg} {H : Hp} : ∀ {ys : List V} {ps : List (Int × Str)} {i : Nat} {p : Int × Str}, Its K H ys ps → ps[i]? = some p → ∃ a, ys[i]? = some (V.ref a) ∧ It K H a p.1 p.2
  | _, _, 0, _, .cons ⟨a, h1, h2⟩ _, e => by
    cases e
    exact ⟨a, congrArg some h1, h2⟩
  | _, _, n + 1, _, .cons _ t, e => its_at (i := n) (show Its _ _ _ _ from t) e
abbrev s_bef : Stmt := inClass (topS 17) 3
theorem sc_bef : FnScope ["self", "other"] ["self", "other"] (defScope s_bef) := ⟨rfl, rfl, rfl, by decide +kernel, rfl, by decide +kernel, by decide +kernel⟩
abbrev s_need : Stmt := topS 20
abbrev N_need : List Str := ["items", "most", "k"]
theorem sc_need : FnScope N_need ["items", "most"] (defScope s_need) := ⟨rfl, rfl, rfl, by decide +kernel, rfl, by decide +kernel, by decide +kernel⟩
section
variable {P : Program} {w : World} {K : Fg} {mg : Str → Option Value} {base : Heap}
theorem ok_bef {f : Addr} {fd : FuncData} (F : FnP K "before" "Item.before" s_bef f fd) (T : Txt K mg) : FnOk P w K mg base CX0 1 f fd ["self", "other"] (spTwo K fBefore) := by
  refine F.ok sc_bef (fun vs H Q E h => ?_) (fun cdv A outer s H vs Q E hr h => ?_)
  · obtain ⟨a, b, i, j, z, u, rfl, _⟩ := h
    rfl
  · obtain ⟨a, b, i, j, z, u, rfl, ⟨dx, ha⟩, ⟨db, hb⟩, k⟩ := h
    refine ⟨_, PSs.nox (pss_one (ps_ret (pe_cmpR op_lt (pe_fld (pv 0) rfl) (pe_fld (pv 1) rfl) (nomark _)))), ?_⟩
    exact ⟨_, rfl, a, _, dx, _, _, rfl, ha, T.cls, T.na (by decide +kernel), rfl, _, rfl, b, _, db, _, _, rfl, hb, T.cls, T.na (by decide +kernel), rfl, _, _, rfl, rfl, k⟩
theorem ok_need {f : Addr} {fd fdB fdD fdM : FuncData} (F : FnP K "need_row" "need_row" s_need f fd) (FB : FnP K "before" "Item.before" s_bef (ma K (ga K "Item") "before") fdB)
    (FD : FnP K "__init__" "Disordered.__init__" (s_err 7) (ma K (ga K "Disordered") "__init__") fdD) (FM : FnP K "__init__" "TooMany.__init__" (s_err 8) (ma K (ga K "TooMany") "__init__") fdM) (T : Txt K mg) : FnOk P w K mg base (L2.CX P w) 3 f fd ["items", "most"] (spNeed K) := by
  have zr : mg "range" = none := T.bl (by decide +kernel)
  have zlen : mg "len" = none := T.bl (by decide +kernel)
  have gD : mg "Disordered" = some (.ref (ga K "Disordered")) := T.cl (by decide +kernel)
  have gM : mg "TooMany" = some (.ref (ga K "TooMany")) := T.cl (by decide +kernel)
  have mD : (("Disordered", 7, "at") : Str × Nat × Str) ∈ errs := by decide +kernel
  have mM : (("TooMany", 8, "most") : Str × Nat × Str) ∈ errs := by decide +kernel
  obtain ⟨iD, tD⟩ := T.ini mD
  obtain ⟨iM, tM⟩ := T.ini mM
  have G_bef : FnOk P w K mg base CX0 1 _ fdB ["self", "other"] (spTwo K fBefore) := ok_bef FB T
  have G_dis : FnOk P w K mg base CX0 1 _ fdD ["self", "at"] (spIni (ga K "Disordered") "at") := ok_Disordered FD T
  have G_many : FnOk P w K mg base CX0 1 _ fdM ["self", "most"] (spIni (ga K "TooMany") "most") := ok_TooMany FM T
  have b_bef : Binds K fdB ["self", "other"] [] := FB.bindsN fun _ _ _ _ _ _ us hl => match us, hl with | [_, _], _ => rfl
  have b_dis : Binds K fdD ["self", "at"] [] := FD.bindsN fun _ _ _ _ _ _ us hl => match us, hl with | [_, _], _ => rfl
  have b_many : Binds K fdM ["self", "most"] [] := FM.bindsN fun _ _ _ _ _ _ us hl => match us, hl with | [_, _], _ => rfl
  refine F.ok sc_need (fun vs H Q E h => ?_) (fun cdv A outer s H vs Q E hr h => ?_)
  · obtain ⟨l, most, ys, ps, rfl, _⟩ := h
    rfl
  · obtain ⟨l, most, ys, ps, rfl, hl, its, hn, kg, kd, km⟩ := h
    have ln := its_len its
    refine ⟨_, (pss_cons (ps_for (passes_of rfl) rfl (pi_range2 rfl zr (pa_cons pe_int (pa_cons (pe_callB call_len (by rfl) zlen (by decide +kernel) (pa_cons (pv 0) pa_nil)) pa_nil))) (pg_name (i := 2) sc_need.nd rfl (Or.inl rfl))
    (pss_one (ps_if (pt_val (pe_meth (E := E0) (pe_ix ix_list (pv 0) (pv 2) (fun _ _ => rfl)) T.cls T.mtB G_bef (hr.mono (by decide)) b_bef .nil pass0 (pa_cons (pe_ix ix_list (pv 0) (pe_op op_sub (pv 2) pe_int) (fun _ _ => rfl)) pa_nil))) (pss_one (ps_raise rfl (takes_of rfl rfl rfl rfl) (pmk_oex (T.xc mD).ox iD tD G_dis (hr.mono (by decide)) b_dis .nil pass0 rfl gD (pa_cons (pv 2) pa_nil)))) pss_nil)))
    (pss_one (ps_if (pt_cmpR op_gt (pe_callB call_len (by rfl) zlen (by decide +kernel) (pa_cons (pv 0) pa_nil)) (pv 1) (nomark _)) (pss_one (ps_raise rfl (takes_of rfl rfl rfl rfl) (pmk_oex (T.xc mM).ox iM tM G_many (hr.mono (by decide)) b_many .nil pass0 rfl gM (pa_cons (pv 1) pa_nil)))) pss_nil))), ?_⟩
    have len900 : ys.length ≤ sizeLine := Nat.le_trans hn (by decide)
    refine ⟨_, rfl, _, _, rfl, .inl ⟨_, SqL.of hl, rfl⟩, 1, (ys.length : Int), rfl, ⟨by decide, by decide, by omega, by omega⟩, for_range (lo := 1) (n := ((ys.length : Int) - 1).toNat) (fun i σ H' => H' = H ∧ (∃ kv : Option V, σ = [some (.ref l), some (.int most), kv]) ∧ Up ps i) ⟨rfl, ⟨none, rfl⟩, fun m a b h => absurd h (Nat.not_lt_zero _)⟩ ?_ ?_⟩
    · rintro i σ H1 hi ⟨rfl, ⟨kv, rfl⟩, up⟩
      have h1 : i < ps.length := by omega
      have h2 : i + 1 < ps.length := by omega
      obtain ⟨a, ea, Ia⟩ := its_at its (List.getElem?_eq_getElem h2)
      obtain ⟨b, eb, Ib⟩ := its_at its (List.getElem?_eq_getElem h1)
      obtain ⟨dx, hA⟩ := id Ia
      refine ⟨_, rfl, _, rfl, l, _, _, .ref a, rfl, rfl, SqL.of hl, atI_of (by omega) (by rw [show (1 + (i : Int)).toNat = i + 1 by omega]; exact ea), ?_⟩
      refine ⟨a, dx, _, rfl, hA, rfl, _, rfl, _, rfl, _, _, rfl, rfl, l, _, _, .ref b, rfl, rfl, SqL.of hl, atI_of (by omega) (by rw [show (1 + (i : Int) - 1).toNat = i by omega]; exact eb), ?_⟩
      refine ⟨a, b, _, _, _, _, rfl, Ia, Ib, _, rfl, ite2 (fun hlt => ?_) (fun hge => ?_)⟩
      · refine ⟨_, rfl, err_out fun d H5 s5 e5 => kd i _ _ (List.getElem?_eq_getElem h1) (List.getElem?_eq_getElem h2) (of_decide_eq_true hlt) up d H5 s5 e5⟩
      · refine ⟨rfl, ⟨_, rfl⟩, fun m p q hm ep eq => ?_⟩
        by_cases h : m < i
        · exact up m p q h ep eq
        · have e : m = i := by omega
          subst e
          rw [List.getElem?_eq_getElem h1] at ep
          rw [List.getElem?_eq_getElem h2] at eq
          cases ep
          cases eq
          have z : ¬ (ps[m + 1].1 < ps[m].1) := fun y => hge (decide_eq_true y)
          omega
    · rintro σ H1 ⟨rfl, ⟨kv, rfl⟩, up⟩
      have all : Up ps ps.length := fun m a b hm ea eb => by
        have h : m + 1 < ps.length := (List.getElem?_eq_some_iff.mp eb).1
        exact up m a b (by omega) ea eb
      refine ⟨_, rfl, _, _, rfl, .inl ⟨_, SqL.of hl, rfl⟩, _, rfl, _, _, rfl, rfl, _, rfl, ite2 (fun hgt => ?_) (fun hle => ?_)⟩
      · have h := of_decide_eq_true hgt
        exact ⟨_, rfl, err_out fun d H5 s5 e5 => km all (by omega) d H5 s5 e5⟩
      · have h : ¬ (most < (ys.length : Int)) := fun y => hle (decide_eq_true y)
        exact kg all (by omega)
end
end K04
namespace K04
open PySem PySem.Spec PyProof.Rows L2 He Tw
theorem it_put {K : Fg} {H : Hp} {l a : Addr} {o : HO} {i : Int} {z : Str} (hl : ∀ dx i z, H l ≠ some (.ins (ga K "Item") dx [("rank", .int i), ("name", .str z)])) (h : It K H a i z) : It K (upd H l o) a i z := by
  obtain ⟨dx, h⟩ := h
  exact ⟨dx, by rw [upd_ne (fun e => hl dx i z (by rw [← e]; exact h))]; exact h⟩
theorem its_put {K : Fg} {H : Hp} {l : Addr} {o : HO} (hl : ∀ dx i z, H l ≠ some (.ins (ga K "Item") dx [("rank", .int i), ("name", .str z)])) : ∀ {ys : List V} {ps : List (Int × Str)}, Its K H ys ps → Its K (upd H l o) ys ps
  | _, _, .nil => .nil
  | _, _, .cons ⟨a, h1, h2⟩ t => .cons ⟨a, h1, it_put hl h2⟩ (its_put hl t)
/-- what stands for a row's items, told -/
structure Src (K : Fg) (H : Hp) (q : Addr) (xs : List V) (os : List (Option (Int × Str))) : Prop where
  seq : Seq K H q xs
  few : xs.length ≤ 900
  len : os.length = xs.length
  vv : ∀ (i : Nat) (x : V), xs[i]? = some x → ∃ o : Option (Int × Str), os[i]? = some o ∧ Vv K H x o
theorem Src.same {K : Fg} {H H' : Hp} {q : Addr} {xs : List V} {os : List (Option (Int × Str))} (e : Same H H') (h : Src K H q xs os) : Src K H' q xs os :=
  ⟨seq_same e h.seq, h.few, h.len, fun i x hx => by
    obtain ⟨o, h1, h2⟩ := h.vv i x hx
    exact ⟨o, h1, h2.same e⟩⟩
/-- how the making of a row goes wrong: which error, its field, its value -/
inductive Bad (os : List (Option (Int × Str))) : Str → Str → Int → Prop where
  | item {n : Nat} {ps : List (Int × Str)} (h1 : ps.length = n) (h2 : ∀ (m : Nat) (p : Int × Str), ps[m]? = some p → os[m]? = some (some p)) (h3 : os[n]? = some none) : Bad os "BadItem" "part" (n : Nat)
  | order {k : Nat} {ps : List (Int × Str)} {a b : Int × Str} (h0 : os = ps.map some) (h1 : ps[k]? = some a) (h2 : ps[k + 1]? = some b) (h3 : b.1 < a.1) (h4 : Up ps k) : Bad os "Disordered" "at" (1 + (k : Int))
  | many {ps : List (Int × Str)} (h0 : os = ps.map some) (h1 : Up ps ps.length) (h2 : (200 : Int) < (ps.length : Int)) : Bad os "TooMany" "most" 200
/-- a row made -/
def spRow (K : Fg) : Sp := fun vs H Q E => ∃ (a q dx : Addr) (xs : List V) (os : List (Option (Int × Str))), vs = [.ref a, .ref q] ∧ H a = some (.ins (ga K "Row") dx []) ∧ Src K H q xs os ∧
  (∀ (ps : List (Int × Str)), os = ps.map some → Up ps ps.length → ps.length ≤ 200 → ∀ (H' : Hp) (ys : List V), But a H H' → RowAt K H' a ys → Its K H' ys ps → Q .non H') ∧
  (∀ (x f : Str) (v : Int), Bad os x f v → ∀ (d : Addr) (H' : Hp), Same H H' → H' d = some (.xd [(f, .int v)]) → E (.ref (ga K x)) (some d) H')
abbrev s_row : Stmt := inClass (topS 25) 1
abbrev N_row : List Str := ["self", "items", "found"]
theorem sc_row : FnScope N_row ["self", "items"] (defScope s_row) := ⟨rfl, rfl, rfl, by decide +kernel, rfl, by decide +kernel, by decide +kernel⟩
section
variable {P : Program} {w : World} {K : Fg} {mg : Str → Option Value} {base : Heap}
theorem ok_row {f fA fN : Addr} {fd fdA fdN : FuncData} {dvs : List V} (F : FunD K "__init__" "Row.__init__" (defArgs s_row) (defBody s_row) (defScope s_row) dvs [] f fd) (FA : FnP K "as_items" "as_items" s_as fA fdA) (gA : mg "as_items" = some (.ref fA)) (G_as : FnOk P w K mg base (L2.CX P w) 5 fA fdA ["values"] (spAs K))
    (FN : FnP K "need_row" "need_row" s_need fN fdN) (gN : mg "need_row" = some (.ref fN)) (G_need : FnOk P w K mg base (L2.CX P w) 3 fN fdN ["items", "most"] (spNeed K)) (T : Txt K mg) : FnOk P w K mg base (L2.CX P w) 6 f fd ["self", "items"] (spRow K) := by
  have ztup : mg "tuple" = none := T.bl (by decide +kernel)
  have b_as : Binds K fdA ["values"] [] := FA.bindsN fun _ _ _ _ _ _ us hl => match us, hl with | [_], _ => rfl
  have b_need : Binds K fdN ["items", "most"] [] := FN.bindsN fun _ _ _ _ _ _ us hl => match us, hl with | [_, _], _ => rfl
  obtain ⟨um, hm⟩ := T.most
  refine F.ok sc_row (fun vs H Q E h => ?_) (fun cdv A outer s H vs Q E hr h => ?_)
  · obtain ⟨a, q, dx, xs, os, rfl, _⟩ := h
    rfl
  · obtain ⟨a, q, dx, xs, os, rfl, ha, S, kg, kb⟩ := h
    refine ⟨_, (pss_cons (ps_set (i := 2) sc_row.nd rfl (Or.inl rfl) (pe_callS G_as (hr.mono (by decide)) rfl gA FA.kp b_as (fun σ => passAt (takes_of rfl rfl rfl rfl) σ) (pa_cons (pv 1) pa_nil)))
    (pss_cons (ps_expr (pe_callS G_need (hr.mono (by decide)) rfl gN FN.kp b_need (fun σ => passAt (takes_of rfl rfl rfl rfl) σ) (pa_cons (pv 2) (pa_cons (pe_con (pv 0) rfl) pa_nil))))
    (pss_one (ps_fld (pv 0) (pe_callTy call_tuple_of (by rfl) ztup (by decide +kernel) (pa_cons (pv 2) pa_nil)) rfl)))), ?_⟩
    refine ⟨_, rfl, q, xs, os, rfl, S.seq, S.few, S.len, S.vv, fun ps l H1 ys e0 h0 s1 g1 its => ?_, fun n ps d H1 h1 h2 h3 s1 e1 => kb _ _ _ (.item h1 h2 h3) d H1 s1 e1⟩
    have ha1 := s1 _ _ ha
    have hl9 : ys.length ≤ 900 := by
      have h1 := S.len
      have h2 := its_len its
      rw [e0, List.length_map] at h1
      have := S.few
      omega
    refine ⟨_, rfl, _, rfl, a, _, dx, _, .int 200, um, rfl, ha1, T.clsR, hm, rfl, l, 200, ys, ps, rfl, g1, its, hl9, fun up few => ?_, fun k p p' h1 h2 h3 h4 d H2 s2 e2 => kb _ _ _ (.order e0 h1 h2 h3 h4) d H2 (s1.trans s2) e2, fun up big d H2 s2 e2 => kb _ _ _ (.many e0 up big) d H2 (s1.trans s2) e2⟩
    refine ⟨_, rfl, l, ys, rfl, .inl ⟨SqL.of g1, fun t ht => ⟨_, rfl, a, _, dx, _, rfl, (same_new ht) _ _ ha1, T.clsR, T.naR, (by show 0 < 1000; decide), ?_⟩⟩⟩
    have hat : a ≠ t := ne_of_none ha1 ht
    refine kg ps e0 up (by omega) _ ys (((But.of s1).trans (But.of (same_new ht))).trans But.upd) ⟨dx, t, upd_same, by rw [upd_ne hat.symm]; exact upd_same⟩ (its_put (fun dx' i z e => ?_) (its.same (same_new ht)))
    rw [(same_new ht) _ _ ha1] at e
    exact nomatch (HO.ins.inj (Option.some.inj e)).2.2
end
end K04
namespace K04
open PySem PySem.Spec PyProof.Rows L2 He Tw
def spListed (K : Fg) : Sp := fun vs H Q _ => ∃ (a : Addr) (ys : List V), vs = [.ref a] ∧ RowAt K H a ys ∧ ∀ (l : Addr) (H' : Hp), H l = none → Same H H' → H' l = some (.lst ys) → Q (.ref l) H'
def rk (ps : List (Int × Str)) : List Int := ps.map fun p => p.1
def spRanks (K : Fg) : Sp := fun vs H Q _ => ∃ (a : Addr) (ys : List V) (ps : List (Int × Str)), vs = [.ref a] ∧ RowAt K H a ys ∧ Its K H ys ps ∧ ys.length ≤ 900 ∧ ∀ (l : Addr) (H' : Hp), H l = none → Same H H' → H' l = some (.lst ((rk ps).map V.int)) → Q (.ref l) H'
def spLen (K : Fg) : Sp := fun vs H Q _ => ∃ (a : Addr) (ys : List V), vs = [.ref a] ∧ RowAt K H a ys ∧ ys.length ≤ 900 ∧ Q (.int (ys.length : Nat)) H
def spEqR (K : Fg) : Sp := fun vs H Q _ => ∃ (a b : Addr) (ys zs : List V) (ps us : List (Int × Str)), vs = [.ref a, .ref b] ∧ RowAt K H a ys ∧ Its K H ys ps ∧ ys.length ≤ 900 ∧ RowAt K H b zs ∧ Its K H zs us ∧ zs.length ≤ 900 ∧ rk ps = rk us ∧ ∀ H', Same H H' → Q (.bl true) H'
theorem RowAt.same {K : Fg} {H H' : Hp} {a : Addr} {ys : List V} (e : Same H H') (h : RowAt K H a ys) : RowAt K H' a ys := by
  obtain ⟨dx, t, h1, h2⟩ := h
  exact ⟨dx, t, e _ _ h1, e _ _ h2⟩
theorem fldK {X : Cx} {e : Expr} {f : Str} {pos : Pos} {ta : TE} (K : Fg) (he : PE X e ta) (hb : attributeBase e f X.env (eval e X.env) = eval e X.env := by rfl) (h : X.K = K := by rfl) : PE X (.Attribute e f pos) (tFld K ta f) := by
  subst h
  exact pe_fld he hb
abbrev s_lst : Stmt := inClass (topS 25) 10
theorem sc_lst : FnScope ["self"] ["self"] (defScope s_lst) := ⟨rfl, rfl, rfl, by decide +kernel, rfl, by decide +kernel, by decide +kernel⟩
abbrev s_rks : Stmt := inClass (topS 25) 11
abbrev N_rks : List Str := ["self", "item"]
theorem sc_rks : FnScope N_rks ["self"] (defScope s_rks) := ⟨rfl, rfl, rfl, by decide +kernel, rfl, by decide +kernel, by decide +kernel⟩
abbrev s_len : Stmt := inClass (topS 25) 3
theorem sc_len : FnScope ["self"] ["self"] (defScope s_len) := ⟨rfl, rfl, rfl, by decide +kernel, rfl, by decide +kernel, by decide +kernel⟩
abbrev s_eqr : Stmt := inClass (topS 25) 9
theorem sc_eqr : FnScope ["self", "other"] ["self", "other"] (defScope s_eqr) := ⟨rfl, rfl, rfl, by decide +kernel, rfl, by decide +kernel, by decide +kernel⟩
section
variable {P : Program} {w : World} {K : Fg} {mg : Str → Option Value} {base : Heap}
theorem ok_rks {f : Addr} {fd : FuncData} (F : FnP K "ranks" "Row.ranks" s_rks f fd) (T : Txt K mg) : FnOk P w K mg base CX0 1 f fd ["self"] (spRanks K) := by
  refine F.ok sc_rks (fun vs H Q E h => ?_) (fun cdv A outer s H vs Q E hr h => ?_)
  · obtain ⟨a, ys, ps, rfl, _⟩ := h
    rfl
  · obtain ⟨a, ys, ps, rfl, ⟨dx, t, ha, ht⟩, its, hn, k⟩ := h
    refine ⟨_, PSs.nox (pss_one (ps_ret (pe_lc (own := [("item", 1)]) (g := gName 1) (tt := tYes) (by rfl) sc_rks.nd (pi_tup (pe_fld (pv 0) rfl)) (blkOk_by (own := [("item", 1)]) (N := N_rks) (sc := defScope s_rks) (by decide +kernel)) (fun _ _ _ _ _ => (pg_name (i := 1) sc_rks.nd rfl (Or.inl rfl))) (fun _ _ _ _ _ => pts_nil) (fun _ _ _ _ _ => (fldK K (pv 1)))))), ?_⟩
    have ln := its_len its
    refine ⟨_, rfl, a, _, dx, _, _, rfl, ha, T.clsR, T.naR, rfl, t, rfl, ⟨ys, SqT.of ht⟩, fun D hD => lc_tup (K := K) (a := t) (xs := ys) (fun i H' => Same H H' ∧ H' D = some (.lst (((rk ps).take i).map V.int))) ⟨same_new hD, upd_same⟩ (fun _ _ _ q => SqT.of (q.1 _ _ ht)) ?_ ?_⟩
    · rintro i x H' hx ⟨sD, gD⟩
      have hi : i < ps.length := by
        have := (List.getElem?_eq_some_iff.mp hx).1
        omega
      obtain ⟨b, eb, Ib⟩ := its_at its (List.getElem?_eq_getElem hi)
      rw [hx] at eb
      cases eb
      obtain ⟨db, hb⟩ := Ib.same sD
      refine ⟨rfl, _, rfl, b, _, db, _, _, rfl, hb, T.cls, T.na (by decide +kernel), rfl, _, gD, ?_, same_upd sD hD, ?_⟩
      · rw [List.length_map]
        exact Nat.lt_of_le_of_lt (List.length_take_le' _ _) (by
          unfold rk
          rw [List.length_map]
          exact Nat.lt_of_lt_of_le (show ps.length < 1000 by omega) (by decide))
      · have e : (rk ps)[i]? = some ps[i].1 := by
          unfold rk
          rw [List.getElem?_map, List.getElem?_eq_getElem hi]
          rfl
        rw [upd_same, List.take_add_one, e, List.map_append]
        rfl
    · rintro H' ⟨sD, gD⟩
      rw [List.take_of_length_le (by unfold rk; rw [List.length_map]; omega)] at gD
      exact k D H' hD sD gD
theorem ok_len {f : Addr} {fd : FuncData} (F : FnP K "__len__" "Row.__len__" s_len f fd) (T : Txt K mg) : FnOk P w K mg base CX0 1 f fd ["self"] (spLen K) := by
  have zlen : mg "len" = none := T.bl (by decide +kernel)
  refine F.ok sc_len (fun vs H Q E h => ?_) (fun cdv A outer s H vs Q E hr h => ?_)
  · obtain ⟨a, ys, rfl, _⟩ := h
    rfl
  · obtain ⟨a, ys, rfl, ⟨dx, t, ha, ht⟩, hn, k⟩ := h
    refine ⟨_, PSs.nox (pss_one (ps_ret (pe_callB call_len (by rfl) zlen (by decide +kernel) (pa_cons (pe_fld (pv 0) rfl) pa_nil)))), ?_⟩
    exact ⟨_, rfl, a, _, dx, _, _, rfl, ha, T.clsR, T.naR, rfl, _, _, rfl, .inr ⟨_, SqT.of ht, rfl⟩, k⟩
end
end K04
namespace K04
open PySem PySem.Spec PyProof.Rows L2 He Tw
/-- references to pairs of these ranks and names -/
def Prs (H : Hp) (ts : List V) (ps : List (Int × Str)) : Prop := Paired (fun v p => ∃ t, v = V.ref t ∧ H t = some (.tup [.int p.1, .str p.2])) ts ps
theorem Prs.keep {H H' : Hp} (k : ∀ t xs, H t = some (.tup xs) → H' t = some (.tup xs)) : ∀ {ts : List V} {ps : List (Int × Str)}, Prs H ts ps → Prs H' ts ps
  | _, _, .nil => .nil
  | _, _, .cons ⟨t, h1, h2⟩ r => .cons ⟨t, h1, k _ _ h2⟩ (Prs.keep k r)
theorem Prs.snoc {H : Hp} : ∀ {ts : List V} {ps : List (Int × Str)} {t : Addr} {p : Int × Str}, Prs H ts ps → H t = some (.tup [.int p.1, .str p.2]) → Prs H (ts ++ [.ref t]) (ps ++ [p])
  | _, _, _, _, .nil, h => .cons ⟨_, rfl, h⟩ .nil
  | _, _, _, _, .cons x r, h => .cons x (Prs.snoc r h)
/-- a pair that makes an item -/
def Gd (p : Int × Str) : Prop := p.1.natAbs ≤ 10 ^ 29 + 10 ^ 12 ∧ textOk p.2 = true ∧ p.2.length ≤ 8
theorem up_snoc {ps : List (Int × Str)} {a : Int × Str} (h : Up ps ps.length) (hl : ∀ q, ps.getLast? = some q → q.1 ≤ a.1) : Up (ps ++ [a]) (ps ++ [a]).length := fun m x y hm ex ey => by
  have h2 : m + 1 < (ps ++ [a]).length := (List.getElem?_eq_some_iff.mp ey).1
  rw [List.length_append, List.length_singleton] at h2
  rw [List.getElem?_append_left (by omega)] at ex
  by_cases h3 : m + 1 < ps.length
  · rw [List.getElem?_append_left h3] at ey
    exact h m x y (by omega) ex ey
  · have e : m + 1 = ps.length := by omega
    rw [e, List.getElem?_append_right (Nat.le_refl _), Nat.sub_self] at ey
    cases ey
    refine hl x ?_
    rw [List.getLast?_eq_getElem?, show ps.length - 1 = m by omega]
    exact ex
def spPairs : Sp := fun vs H Q _ => ∃ (p l : Addr) (most : Nat) (c : Nat), vs = [.ref p, .int (most : Nat)] ∧ most ≤ 100 ∧ PenL H p l c ∧ c ≤ 500000 ∧
  ∀ (f : Addr) (H' : Hp) (ts : List V) (ps : List (Int × Str)), PenL H' p l (c + 300) → But p H H' → H f = none → f ≠ p → H' f = some (.lst ts) → Prs H' ts ps → ps.length ≤ most → Up ps ps.length → (∀ q ∈ ps, Gd q) → Q (.ref f) H'
abbrev s_pairs : Stmt := topS 32
abbrev N_pairs : List Str := ["_law_pen_here", "_law_most", "_law_height", "_law_found", "_law_k"]
theorem sc_pairs : FnScope N_pairs ["_law_pen_here", "_law_most"] (defScope s_pairs) := ⟨rfl, rfl, rfl, by decide +kernel, rfl, by decide +kernel, by decide +kernel⟩
section
variable {P : Program} {w : World} {K : Fg} {mg : Str → Option Value} {base : Heap}
theorem ok_pairs {f fD fP : Addr} {fd fdD fdP : FuncData} (F : FnP K "_law_pairs" "_law_pairs" s_pairs f fd) (FD : FnP K "_law_draw" "_law_draw" s_draw fD fdD) (gD : mg "_law_draw" = some (.ref fD)) (FP : FnP K "_law_pick" "_law_pick" s_pick fP fdP) (gP : mg "_law_pick" = some (.ref fP)) (T : Txt K mg) :
    FnOk P w K mg base CX0 3 f fd ["_law_pen_here", "_law_most"] spPairs := by
  have zr : mg "range" = none := T.bl (by decide +kernel)
  have G_draw : FnOk P w K mg base CX0 1 fD fdD ["_law_pen_here", "_law_many"] spDrawL := ok_draw FD T
  have b_draw : Binds K fdD ["_law_pen_here", "_law_many"] [] := FD.bindsN fun _ _ _ _ _ _ us hl => match us, hl with | [_, _], _ => rfl
  have G_pick : FnOk P w K mg base CX0 2 fP fdP ["_law_pen_here", "_law_some"] (spPickL K) := ok_pick FP FD gD T
  have b_pick : Binds K fdP ["_law_pen_here", "_law_some"] [] := FP.bindsN fun _ _ _ _ _ _ us hl => match us, hl with | [_, _], _ => rfl
  refine F.ok sc_pairs (fun vs H Q E h => ?_) (fun cdv A outer s H vs Q E hr h => ?_)
  · obtain ⟨p, l, most, c, rfl, _⟩ := h
    rfl
  · obtain ⟨p, l, most, c, rfl, hm, hP, hc, k⟩ := h
    refine ⟨_, PSs.nox (pss_cons (ps_set (i := 2) sc_pairs.nd rfl (Or.inl rfl) (pe_call G_pick (hr.mono (by decide)) rfl gP FP.kp b_pick .nil pass0 (pa_cons (pv 0) (pa_cons (pe_lstN (pa_cons pe_int (pa_cons (pe_un un_neg pe_int) (pa_cons pe_int (pa_cons (pe_un un_neg (pe_op op_pow pe_int pe_int)) (pa_cons (pe_op op_pow pe_int pe_int) pa_nil)))))) pa_nil))))
    (pss_cons (ps_set (i := 3) sc_pairs.nd rfl (Or.inl rfl) (pe_lstN pa_nil))
    (pss_cons (ps_for PassesOwn.never rfl (pi_range1 rfl zr (pa_cons (pe_call G_draw (hr.mono (by decide)) rfl gD FD.kp b_draw .nil pass0 (pa_cons (pv 0) (pa_cons (pe_op op_add (pv 1) pe_int) pa_nil))) pa_nil)) (pg_name (i := 4) sc_pairs.nd rfl (Or.inl rfl))
    (pss_cons (ps_set (i := 2) sc_pairs.nd rfl (Or.inl rfl) (pe_op op_add (pv 2) (pe_call G_pick (hr.mono (by decide)) rfl gP FP.kp b_pick .nil pass0 (pa_cons (pv 0) (pa_cons (pe_lstN (pa_cons pe_int (pa_cons pe_int (pa_cons pe_int (pa_cons pe_int (pa_cons pe_int (pa_cons pe_int (pa_cons (pe_op op_pow pe_int pe_int) pa_nil)))))))) pa_nil)))))
    (pss_one (ps_expr (pe_bm PySem.F.plainAttrs_list PySem.F.slot_list_append PySem.F.type_list_append mt_append (pv 3) (pa_cons (pe_tupN (pa_cons (pv 2) (pa_cons (pe_call G_pick (hr.mono (by decide)) rfl gP FP.kp b_pick .nil pass0 (pa_cons (pv 0) (pa_cons (pe_lstN (pa_cons pe_str (pa_cons pe_str (pa_cons pe_str (pa_cons pe_str (pa_cons pe_str (pa_cons pe_str pa_nil))))))) pa_nil))) pa_nil))) pa_nil))))))
    (pss_one (ps_ret (pv 3)))))), ?_⟩
    refine ⟨_, rfl, _, rfl, _, _, rfl, rfl, ⟨by decide, by decide, by decide⟩, _, rfl, _, _, rfl, rfl, ⟨by decide, by decide, by decide⟩, sz1000 (by show 5 ≤ 1000; decide), fun q1 H1 f1 m1 s1 g1 => ?_⟩
    refine ⟨p, l, q1, _, c, rfl, SqL.of g1, (hP.new f1).1, (by show 0 < 5; decide), (by show 5 < 1000; decide), hP.same s1, by omega, fun v H2 hv P2 B2 => ?_⟩
    obtain ⟨r0, rfl, hr0⟩ : ∃ r : Int, v = .int r ∧ r.natAbs ≤ 10 ^ 29 := by
      simp only [List.mem_cons, List.not_mem_nil, or_false] at hv
      rcases hv with rfl | rfl | rfl | rfl | rfl
      · exact ⟨_, rfl, by decide⟩
      · exact ⟨_, rfl, by decide⟩
      · exact ⟨_, rfl, by decide⟩
      · exact ⟨_, rfl, by decide⟩
      · exact ⟨_, rfl, by decide⟩
    have B20 : But p H H2 := (But.of s1).trans B2
    refine ⟨sz1000 (Nat.zero_le _), fun lf H3 f3 m3 s3 g3 => ?_⟩
    have P3 := P2.same s3
    refine ⟨_, rfl, _, rfl, _, _, rfl, rfl, p, l, (most : Int) + 1, c + 1, rfl, by omega, by omega, P3, by omega, fun n H4 n0 n1 P4 B4 => ?_⟩
    obtain ⟨nlp, nll⟩ := P2.new f3
    have hlfH : H lf = none := by
      cases e : H lf with
      | none => rfl
      | some o =>
        by_cases h : lf = p
        · exact absurd h nlp
        · rw [B20 lf o e h] at f3
          cases f3
    have B40 : But p H H4 := (B20.trans (But.of s3)).trans B4
    refine ⟨n, rfl, by omega, by omega, for_range (lo := 0) (n := n.toNat) (fun i σ H' => ∃ (r : Int) (kv : Option V) (ts : List V) (ps : List (Int × Str)), σ = [some (.ref p), some (.int (most : Nat)), some (.int r), some (.ref lf), kv] ∧ PenL H' p l (c + 2 + 2 * i) ∧ But p H H' ∧ H' lf = some (.lst ts) ∧ Prs H' ts ps ∧ ps.length = i ∧
      Up ps ps.length ∧ (∀ q, ps.getLast? = some q → q.1 ≤ r) ∧ r.natAbs ≤ 10 ^ 29 + i * 10 ^ 9 ∧ ∀ q ∈ ps, Gd q) ⟨r0, none, [], [], rfl, P4, B40, B4 _ _ g3 nlp, .nil, rfl, (fun m a b h => absurd h (Nat.not_lt_zero _)), (fun q h => nomatch h), (by omega), (fun q h => nomatch h)⟩ ?_ ?_⟩
    · rintro i σ H5 hi ⟨r, kv, ts, ps, rfl, P5, B5, g5, prs, hl, up, last, hr5, gd⟩
      have e9 : (10 : Int) ^ (9 : Int).toNat = 1000000000 := by decide
      refine ⟨_, rfl, _, rfl, _, _, rfl, rfl, ⟨by decide, by decide, by decide⟩, sz1000 (by show 7 ≤ 1000; decide), fun q6 H6 f6 m6 s6 g6 => ?_⟩
      refine ⟨p, l, q6, _, c + 2 + 2 * i, rfl, SqL.of g6, (P5.new f6).1, (by show 0 < 7; decide), (by show 7 < 1000; decide), P5.same s6, by omega, fun v H7 hv P7 B7 => ?_⟩
      obtain ⟨d, rfl, hd0, hd1⟩ : ∃ d : Int, v = .int d ∧ 0 ≤ d ∧ d ≤ 1000000000 := by
        simp only [List.mem_cons, List.not_mem_nil, or_false] at hv
        rcases hv with rfl | rfl | rfl | rfl | rfl | rfl | rfl <;> exact ⟨_, rfl, by decide, by decide⟩
      have g7 := B7 _ _ (s6 _ _ g5) nlp
      refine ⟨_, _, rfl, rfl, _, rfl, .inl ⟨rfl, _, SqL.of g7⟩, _, rfl, _, rfl, sz1000 (by show 6 ≤ 1000; decide), fun q8 H8 f8 m8 s8 g8 => ?_⟩
      refine ⟨p, l, q8, _, c + 3 + 2 * i, rfl, SqL.of g8, (P7.new f8).1, (by show 0 < 6; decide), (by show 6 < 1000; decide), (P7.same s8).mono (by omega), by omega, fun v H9 hv P9 B9 => ?_⟩
      obtain ⟨z, rfl, tz⟩ : ∃ z : Str, v = .str z ∧ textOk z = true ∧ z.length ≤ 8 := by
        simp only [List.mem_cons, List.not_mem_nil, or_false] at hv
        rcases hv with rfl | rfl | rfl | rfl | rfl | rfl <;> exact ⟨_, rfl, by decide +kernel, by decide +kernel⟩
      have g9 := B9 _ _ (s8 _ _ g7) nlp
      refine ⟨sz1000 (by show 2 ≤ 1000; decide), fun t H10 f10 s10 g10 => ?_⟩
      have g10f := s10 _ _ g9
      have BB : But p H5 H10 := ((((But.of s6).trans B7).trans (But.of s8)).trans B9).trans (But.of s10)
      have tup_ne : ∀ {a : Addr} {xs : List V}, H5 a = some (.tup xs) → a ≠ p := fun {a xs} e h => by
        obtain ⟨ns, i', g', h1, _⟩ := P5
        rw [h, h1] at e
        cases e
      have prs10 : Prs H10 ts ps := prs.keep fun a xs e => BB _ _ e (tup_ne e)
      have lt : ts.length < sizeLine := by
        have h1 : ts.length = ps.length := Paired.length prs
        exact Nat.lt_of_lt_of_le (show ts.length < 1000 by omega) (by decide)
      refine ⟨lf, _, _, rfl, rfl, g10f, lt, r + d, _, _, ps ++ [(r + d, z)], rfl, ?_, ?_, upd_same, ?_, ?_, ?_, ?_, ?_, ?_⟩
      · obtain ⟨a1, a2⟩ := P2.new f3
        exact ((P9.same s10).upd a1 a2).mono (by omega)
      · exact fun b o hb hbp => by
          rw [upd_ne (ne_of_none hb hlfH)]
          exact BB b o (B5 b o hb hbp) hbp
      · have ne : ∀ {a : Addr} {xs : List V}, H10 a = some (.tup xs) → a ≠ lf := fun {a xs} e h => by
          rw [h, g10f] at e
          cases e
        refine Prs.snoc (prs10.keep fun a xs e => by
          rw [upd_ne (ne e)]
          exact e) ?_
        rw [upd_ne (ne g10)]
        exact g10
      · rw [List.length_append, hl]
        rfl
      · exact up_snoc up fun q hq => by
          have := last q hq
          show q.1 ≤ r + d
          omega
      · intro q hq
        rw [List.getLast?_append] at hq
        cases hq
        exact Int.le_refl _
      · have h2 : ((i + 1) * 10 ^ 9 : Nat) = i * 10 ^ 9 + 1000000000 := by omega
        omega
      · intro q hq
        rcases List.mem_append.mp hq with h | h
        · exact gd q h
        · have e := List.mem_singleton.mp h
          subst e
          refine ⟨?_, tz⟩
          show (r + d).natAbs ≤ _
          omega
    · rintro σ H5 ⟨r, kv, ts, ps, rfl, P5, B5, g5, prs, hl, up, last, hr5, gd⟩
      exact ⟨_, rfl, k lf H5 ts ps (P5.mono (by omega)) B5 hlfH nlp g5 prs (by omega) up gd⟩
end
end K04
namespace K04
open PySem PySem.Spec PyProof.Rows L2 He Tw
theorem dec_s {i j : Str} : decide (V.str i = V.str j) = decide (i = j) := by
  by_cases h : i = j
  · rw [h]
    simp
  · rw [decide_eq_false h, decide_eq_false fun z => h (V.str.inj z)]
theorem prs_at {H : Hp} : ∀ {ts : List V} {ps : List (Int × Str)} {i : Nat} {x : V}, Prs H ts ps → ts[i]? = some x → ∃ t p, x = V.ref t ∧ ps[i]? = some p ∧ H t = some (.tup [.int p.1, .str p.2])
  | _, _, 0, _, .cons ⟨t, h1, h2⟩ _, e => by
    cases e
    exact ⟨t, _, h1, rfl, h2⟩
  | _, _, n + 1, _, .cons _ r, e => prs_at (i := n) (show Prs _ _ _ from r) e
/-- values that stand for these pairs -/
def Vals' (K : Fg) (H : Hp) (xs : List V) (ps : List (Int × Str)) : Prop := Paired (fun x q => Vv K H x (some q)) xs ps
theorem vals_keep {K : Fg} {H H' : Hp} (k : ∀ a dx i z, H a = some (.ins (ga K "Item") dx [("rank", .int i), ("name", .str z)]) → H' a = some (.ins (ga K "Item") dx [("rank", .int i), ("name", .str z)])) {x : V} {q : Int × Str} (h : Vv K H x (some q)) : Vv K H' x (some q) := by
  cases h with
  | item h =>
    obtain ⟨dx, h⟩ := h
    exact .item ⟨dx, k _ _ _ _ h⟩
  | int h => exact .int h
theorem Vals'.keep {K : Fg} {H H' : Hp} (k : ∀ a dx i z, H a = some (.ins (ga K "Item") dx [("rank", .int i), ("name", .str z)]) → H' a = some (.ins (ga K "Item") dx [("rank", .int i), ("name", .str z)])) : ∀ {xs : List V} {ps : List (Int × Str)}, Vals' K H xs ps → Vals' K H' xs ps
  | _, _, .nil => .nil
  | _, _, .cons h r => .cons (vals_keep k h) (Vals'.keep k r)
theorem Vals'.snoc {K : Fg} {H : Hp} : ∀ {xs : List V} {ps : List (Int × Str)} {x : V} {q : Int × Str}, Vals' K H xs ps → Vv K H x (some q) → Vals' K H (xs ++ [x]) (ps ++ [q])
  | _, _, _, _, .nil, h => .cons h .nil
  | _, _, _, _, .cons x r, h => .cons x (Vals'.snoc r h)
theorem gd_rank {q : Int × Str} (h : Gd q) : rankOk (.int q.1) = true := by
  have h1 : -beyond < q.1 := by
    unfold beyond
    have := h.1
    omega
  have h2 : q.1 < beyond := by
    unfold beyond
    have := h.1
    omega
  show (decide _ && decide _) = true
  rw [decide_eq_true h1, decide_eq_true h2]
  rfl
def spValues (K : Fg) : Sp := fun vs H Q _ => ∃ (p l f : Addr) (ts : List V) (ps : List (Int × Str)) (c : Nat), vs = [.ref p, .ref f] ∧ PenL H p l c ∧ c ≤ 600000 ∧ H f = some (.lst ts) ∧ f ≠ p ∧ Prs H ts ps ∧ ps.length ≤ 400 ∧ (∀ q ∈ ps, Gd q) ∧
  ∀ (g : Addr) (H' : Hp) (xs : List V), PenL H' p l (c + ps.length) → But p H H' → H g = none → g ≠ p → H' g = some (.lst xs) → Vals' K H' xs ps → Q (.ref g) H'
abbrev s_values : Stmt := topS 33
abbrev N_values : List Str := ["_law_pen_here", "_law_pairs_here", "_law_found", "_law_height", "_law_name"]
theorem sc_values : FnScope N_values ["_law_pen_here", "_law_pairs_here"] (defScope s_values) := ⟨rfl, rfl, rfl, by decide +kernel, rfl, by decide +kernel, by decide +kernel⟩
section
variable {P : Program} {w : World} {K : Fg} {mg : Str → Option Value} {base : Heap}
theorem ok_values {f fD : Addr} {fd fdD fdI : FuncData} {d2 : List Value} (F : FnP K "_law_values" "_law_values" s_values f fd) (FD : FnP K "_law_draw" "_law_draw" s_draw fD fdD) (gD : mg "_law_draw" = some (.ref fD)) (I : Itm P w K mg base fdI d2) (T : Txt K mg) :
    FnOk P w K mg base CX0 5 f fd ["_law_pen_here", "_law_pairs_here"] (spValues K) := by
  have gI : mg "Item" = some (.ref (ga K "Item")) := T.cl (by decide +kernel)
  have G_draw : FnOk P w K mg base CX0 1 fD fdD ["_law_pen_here", "_law_many"] spDrawL := ok_draw FD T
  have b_draw : Binds K fdD ["_law_pen_here", "_law_many"] [] := FD.bindsN fun _ _ _ _ _ _ us hl => match us, hl with | [_, _], _ => rfl
  refine F.ok sc_values (fun vs H Q E h => ?_) (fun cdv A outer s H vs Q E hr h => ?_)
  · obtain ⟨p, l, f, ts, ps, c, rfl, _⟩ := h
    rfl
  · obtain ⟨p, l, f, ts, ps, c, rfl, hP, hc, hf, hfp, prs, hn, gd, k⟩ := h
    refine ⟨_, PSs.nox (pss_cons (ps_set (i := 2) sc_values.nd rfl (Or.inl rfl) (pe_lstN pa_nil))
    (pss_cons (ps_for PassesOwn.never rfl (pi_list (pv 1)) (pg_tup (by rfl) (pgs_cons (pg_name (i := 3) sc_values.nd rfl (Or.inl rfl)) (pgs_cons (pg_name (i := 4) sc_values.nd rfl (Or.inl rfl)) pgs_nil)))
    (pss_one (ps_expr (pe_bm PySem.F.plainAttrs_list PySem.F.slot_list_append PySem.F.type_list_append mt_append (pv 2) (pa_cons (pe_ifExp (PW.pt (pw_and (pt_cmpR op_eq (pv 4) pe_str (nomark _)) (pw_and1 (pt_cmpR op_eq (pe_call G_draw (hr.mono (by decide)) rfl gD FD.kp b_draw .nil pass0 (pa_cons (pv 0) (pa_cons pe_int pa_nil))) pe_int (nomark _))))) (pv 3) (pe_make (E := E0) T.mkI I.ok (hr.mono (by decide)) rfl gI I.b .nil passL (pa_cons (pv 3) (pa_cons (pv 4) pa_nil)))) pa_nil)))))
    (pss_one (ps_ret (pv 2))))), ?_⟩
    have lp : ts.length = ps.length := Paired.length prs
    refine ⟨sz1000 (Nat.zero_le _), fun g H1 f1 m1 s1 g1 => ?_⟩
    obtain ⟨ngp, ngl⟩ := hP.new f1
    refine ⟨_, rfl, f, rfl, ⟨ts, SqL.of (s1 _ _ hf)⟩, for_list (K := K) (a := f) (xs := ts) (fun i σ H' => ∃ (kv nv : Option V) (xs : List V), σ = [some (.ref p), some (.ref f), some (.ref g), kv, nv] ∧ PenL H' p l (c + i) ∧ But p H H' ∧ H' g = some (.lst xs) ∧ Vals' K H' xs (ps.take i)) ⟨none, none, [], rfl, hP.same s1, But.of s1, g1, .nil⟩
      (fun i σ H' _ ⟨_, _, _, _, _, b, _⟩ => SqL.of (b _ _ hf hfp)) ?_ ?_⟩
    · rintro i x σ H2 hx ⟨kv, nv, xs, rfl, P2, B2, g2, vv⟩
      obtain ⟨t, q, rfl, eq, ht⟩ := prs_at prs hx
      obtain ⟨r, z⟩ := q
      have gq : Gd (r, z) := gd _ (List.mem_of_getElem? eq)
      have ntp : t ≠ p := fun h => by
        obtain ⟨ns, i', g', h1, _⟩ := hP
        rw [h, h1] at ht
        cases ht
      have hi : i < ps.length := (List.getElem?_eq_some_iff.mp eq).1
      have lx : xs.length < sizeLine := by
        have h1 : xs.length = (ps.take i).length := Paired.length vv
        rw [List.length_take] at h1
        exact Nat.lt_of_lt_of_le (show xs.length < 1000 by omega) (by decide)
      have tk : ps.take (i + 1) = ps.take i ++ [(r, z)] := by rw [List.take_add_one, eq]; rfl
      -- what is appended
      have fin : ∀ {H3 : Hp} {y : V} {kv nv : Option V}, PenL H3 p l (c + (i + 1)) → But p H2 H3 → Vv K H3 y (some (r, z)) → H3 g = some (.lst xs) ∧ (∃ (kv' nv' : Option V) (xs' : List V), [some (V.ref p), some (.ref f), some (.ref g), kv, nv] = [some (.ref p), some (.ref f), some (.ref g), kv', nv'] ∧ PenL (upd H3 g (.lst (xs ++ [y]))) p l (c + (i + 1)) ∧ But p H (upd H3 g (.lst (xs ++ [y]))) ∧ (upd H3 g (.lst (xs ++ [y]))) g = some (.lst xs') ∧ Vals' K (upd H3 g (.lst (xs ++ [y]))) xs' (ps.take (i + 1))) := fun {H3 y kv nv} P3 B3 vy => by
        have g3 := B3 _ _ g2 ngp
        have kp : ∀ a dx j u, H2 a = some (.ins (ga K "Item") dx [("rank", .int j), ("name", .str u)]) → H3 a = some (.ins (ga K "Item") dx [("rank", .int j), ("name", .str u)]) := fun a dx j u e => B3 _ _ e (fun h => by
          obtain ⟨ns, i', g', h1, _⟩ := P2
          rw [h, h1] at e
          cases e)
        have kg : ∀ a dx j u, H3 a = some (.ins (ga K "Item") dx [("rank", .int j), ("name", .str u)]) → (upd H3 g (.lst (xs ++ [y]))) a = some (.ins (ga K "Item") dx [("rank", .int j), ("name", .str u)]) := fun a dx j u e => by
          rw [upd_ne (fun h => by
            rw [h, g3] at e
            cases e)]
          exact e
        refine ⟨g3, kv, nv, xs ++ [y], rfl, P3.upd ngp ngl, fun b o hb hbp => ?_, upd_same, ?_⟩
        · rw [upd_ne (ne_of_none hb f1)]
          exact B3 b o (B2 b o hb hbp) hbp
        · rw [tk]
          exact Vals'.snoc ((vv.keep kp).keep kg) (vals_keep kg vy)
      have mk : ∀ {H3 : Hp} {R : VK} {x dx : Addr}, H3 x = none → H3 dx = none → dx ≠ x → (∀ H4, It K H4 x r z → Same H3 H4 → R .non H4) → spItem K [.ref x, .int r, .str z] (upd (upd H3 dx (.own x)) x (.ins (ga K "Item") dx [])) R E0 := fun h1 h2 h3 h4 => item_mk h1 h2 h3 (gd_rank gq) (show nameOk (.str z) = true from gq.2.1) (Nat.le_trans gq.2.2 (by decide)) h4
      refine ⟨t, _, rfl, SqT.of (B2 _ _ ht ntp), rfl, ?_⟩
      refine ⟨_, _, rfl, _, _, rfl, rfl, ?_⟩
      refine ⟨_, rfl, .inl ⟨rfl, _, SqL.of g2⟩, ?_⟩
      refine ⟨_, rfl, rfl, _, rfl, ?_⟩
      rw [dec_s]
      refine ite2 (fun hz => ?_) (fun hz => ?_)
      · refine ⟨_, rfl, p, l, 2, c + i, rfl, by decide, by decide, P2, by omega, fun r2 H3 _ _ P3 B3 => ⟨rfl, _, rfl, ?_⟩⟩
        have ez : z = "" := of_decide_eq_true hz
        refine ite2 (fun _ => ?_) (fun _ => ?_)
        · have vy : Vv K H3 (.int r) (some (r, z)) := by
            rw [ez]
            exact .int (gd_rank gq)
          obtain ⟨a1, a2⟩ := fin (kv := some (.int r)) (nv := some (.str z)) P3 B3 vy
          exact ⟨_, rfl, g, _, _, rfl, rfl, a1, lx, a2⟩
        · refine ⟨_, rfl, _, rfl, fun x dx h1 h2 h3 => mk h1 h2 h3 fun H4 I4 s4 => ⟨rfl, ?_⟩⟩
          obtain ⟨a1, a2⟩ := fin (kv := some (.int r)) (nv := some (.str z)) (P3.same s4) (B3.trans (But.of s4)) (.item I4)
          exact ⟨g, _, _, rfl, rfl, a1, lx, a2⟩
      · refine ⟨_, rfl, _, rfl, fun x dx h1 h2 h3 => mk h1 h2 h3 fun H4 I4 s4 => ⟨rfl, ?_⟩⟩
        obtain ⟨a1, a2⟩ := fin (kv := some (.int r)) (nv := some (.str z)) ((P2.same s4).mono (by omega)) (But.of s4) (.item I4)
        exact ⟨g, _, _, rfl, rfl, a1, lx, a2⟩
    · rintro σ H2 ⟨kv, nv, xs, rfl, P2, B2, g2, vv⟩
      rw [List.take_of_length_le (by omega)] at vv
      rw [lp] at P2
      exact ⟨_, rfl, k g H2 xs P2 B2 f1 ngp g2 vv⟩
end
end K04
namespace K04
open PySem PySem.Spec PyProof.Rows L2 He Tw
def spTold (K : Fg) : Sp := fun vs H Q _ => ∃ (f : Addr) (ys : List V) (ps : List (Int × Str)), vs = [.ref f] ∧ H f = some (.lst ys) ∧ Its K H ys ps ∧ ys.length ≤ 900 ∧ ∀ (g : Addr) (H' : Hp) (ts : List V), H g = none → Same H H' → H' g = some (.lst ts) → Prs H' ts ps → Q (.ref g) H'
/-- a value that is no item and no rank, beside the pen -/
structure Odd (H : Hp) (p : Addr) (v : V) : Prop where
  bv : ∃ t, Bv H v t
  bad : rankOk v = false
  ne : ∀ a, v = .ref a → a ≠ p
def spOdd : Sp := fun vs H Q _ => ∃ (p l : Addr) (c : Nat), vs = [.ref p] ∧ PenL H p l c ∧ c ≤ 900000 ∧ ∀ (v : V) (H' : Hp), PenL H' p l (c + 1) → But p H H' → Odd H' p v → Q v H'
abbrev s_told : Stmt := topS 34
abbrev N_told : List Str := ["_law_listed", "_law_item"]
theorem sc_told : FnScope N_told ["_law_listed"] (defScope s_told) := ⟨rfl, rfl, rfl, by decide +kernel, rfl, by decide +kernel, by decide +kernel⟩
section
variable {P : Program} {w : World} {K : Fg} {mg : Str → Option Value} {base : Heap}
theorem ok_told {f : Addr} {fd : FuncData} (F : FnP K "_law_told" "_law_told" s_told f fd) (T : Txt K mg) : FnOk P w K mg base CX0 1 f fd ["_law_listed"] (spTold K) := by
  refine F.ok sc_told (fun vs H Q E h => ?_) (fun cdv A outer s H vs Q E hr h => ?_)
  · obtain ⟨f, ys, ps, rfl, _⟩ := h
    rfl
  · obtain ⟨f, ys, ps, rfl, hf, its, hn, k⟩ := h
    refine ⟨_, PSs.nox (pss_one (ps_ret (pe_lc (own := [("_law_item", 1)]) (g := gName 1) (tt := tYes) (by rfl) sc_told.nd (pi_list (pv 0)) (blkOk_by (own := [("_law_item", 1)]) (N := N_told) (sc := defScope s_told) (by decide +kernel)) (fun _ _ _ _ _ => (pg_name (i := 1) sc_told.nd rfl (Or.inl rfl))) (fun _ _ _ _ _ => pts_nil) (fun _ _ _ _ _ => (pe_tupN (pa_cons (fldK K (pv 1)) (pa_cons (fldK K (pv 1)) pa_nil))))))), ?_⟩
    have ln := its_len its
    refine ⟨_, rfl, f, rfl, ⟨ys, SqL.of hf⟩, fun D hD => lc_list (K := K) (a := f) (xs := ys) (fun i H' => Same H H' ∧ ∃ ts, H' D = some (.lst ts) ∧ Prs H' ts (ps.take i)) ⟨same_new hD, [], upd_same, .nil⟩ (fun _ _ _ q => SqL.of (q.1 _ _ hf)) ?_ ?_⟩
    · rintro i x H' hx ⟨sD, ts, gD, prs⟩
      have hi : i < ps.length := by
        have := (List.getElem?_eq_some_iff.mp hx).1
        omega
      obtain ⟨b, eb, Ib⟩ := its_at its (List.getElem?_eq_getElem hi)
      rw [hx] at eb
      cases eb
      obtain ⟨db, hb⟩ := Ib.same sD
      refine ⟨rfl, _, rfl, b, _, db, _, _, rfl, hb, T.cls, T.na (by decide +kernel), rfl, _, rfl, b, _, db, _, _, rfl, hb, T.cls, T.na (by decide +kernel), rfl, sz1000 (by show 2 ≤ 1000; decide), fun t H2 f2 s2 g2 => ?_⟩
      have gD2 := s2 _ _ gD
      have ne : ∀ {a : Addr} {xs : List V}, H2 a = some (.tup xs) → a ≠ D := fun {a xs} e h => by
        rw [h, gD2] at e
        cases e
      refine ⟨_, gD2, ?_, same_upd (sD.trans s2) hD, _, upd_same, ?_⟩
      · have h1 : ts.length = (ps.take i).length := Paired.length prs
        rw [List.length_take] at h1
        exact Nat.lt_of_lt_of_le (show ts.length < 1000 by omega) (by decide)
      · have tk : ps.take (i + 1) = ps.take i ++ [ps[i]] := by rw [List.take_add_one, List.getElem?_eq_getElem hi]; rfl
        rw [tk]
        refine Prs.snoc ((prs.keep fun a xs e => s2 _ _ e).keep fun a xs e => by
          rw [upd_ne (ne e)]
          exact e) ?_
        rw [upd_ne (ne g2)]
        exact g2
    · rintro H' ⟨sD, ts, gD, prs⟩
      rw [List.take_of_length_le (by omega)] at prs
      exact k D H' ts hD sD gD prs
end
end K04
/-! Tw: len of an object with its own __len__; a comprehension's rules with the written part named. -/
namespace Tw
open PySem PySem.Spec PyProof.Rows L2
section
variable {X : Cx} {CX : CXT} {k : Nat} {f C : Addr} {fd : FuncData} {ps : List Str} {sp : Sp} {E : XK}
/-- len(x) by x's own __len__ -/
def rLenOwn (C : Addr) (sp : Sp) (E : XK) : List V → Hp → VK → Prop := fun xs H Q => ∃ (a dx : Addr) (fs : List (Str × V)), xs = [.ref a] ∧ H a = some (.ins C dx fs) ∧ sp [.ref a] H (fun z H' => ∃ n : Nat, z = .int (n : Nat) ∧ n < 2 ^ 62 ∧ Q z H') E
theorem call_lenOwn (hs : PySem.W.findIn X.K (.ref C) "__len__" = some (some (.ref f))) (hf : PySem.W.isFn X.K (.ref f) = true) (F : FnOk X.prog X.w X.K X.mg X.base CX k f fd ps sp) (hr : Room (k + 1) X.A) (hb : Binds X.K fd ps []) (hx : Passes CX X E) : CallR X (.builtin "len") (rLenOwn C sp E) := by
  intro pins s σ H xs us Q I r h
  obtain ⟨a, dx, fs, rfl, ea, q⟩ := h
  obtain ⟨u1, rfl, r1⟩ := vals1 r
  cases (show u1 = Value.ref a from r1)
  obtain ⟨od, ox, J⟩ := inst_at I ea
  obtain ⟨m, hF⟩ := I.fr
  refine PySem.W.len_K hF I.ok.mod.kin J hs hf ?_
  refine wpAny_mono (run_in1 F hr hb hx I (.cons r1 .nil) q) (fun w s' z => ?_) fun _ _ x => x
  obtain ⟨z', H', I', rz, n, ez, hn, qz⟩ := z
  subst ez
  obtain ⟨t, rfl⟩ := rz
  exact ⟨⟨Int.natCast_nonneg n, by omega⟩, .int (n : Nat), H', I'.tok _, ⟨_, rfl⟩, qz⟩
end
end Tw
namespace K04
open PySem PySem.Spec PyProof.Rows L2 He Tw
theorem some_inj {α : Type} : ∀ {xs ys : List α}, xs.map some = ys.map some → xs = ys
  | [], [], _ => rfl
  | [], _ :: _, h => nomatch h
  | _ :: _, [], h => nomatch h
  | x :: xs, y :: ys, h => by
    injection h with h1 h2
    rw [Option.some.inj h1, some_inj h2]
/-- a row is made of these -/
theorem row_to {K : Fg} {H : Hp} {q x dx : Addr} {xs : List V} {ps : List (Int × Str)} {R : VK} {E : XK} (hx : H x = none) (hd : H dx = none) (hne : dx ≠ x) (S : Src K H q xs (ps.map some)) (up : Up ps ps.length) (few : ps.length ≤ 200)
    (k : ∀ (H' : Hp) (ys : List V), Same H H' → RowAt K H' x ys → Its K H' ys ps → R .non H') : spRow K [.ref x, .ref q] (upd (upd H dx (.own x)) x (.ins (ga K "Row") dx [])) R E := by
  refine ⟨x, q, dx, xs, ps.map some, rfl, upd_same, S.same (same_made hd hx hne), fun ps' e up' few' H' ys b r i => ?_, fun n f v bad => ?_⟩
  · have ep : ps = ps' := some_inj e
    subst ep
    exact k H' ys (same_but (same_made hd hx hne) b hx) r i
  · cases bad with
    | @item n ps' h1 h2 h3 =>
      rw [List.getElem?_map] at h3
      cases e : ps[n]? with
      | none =>
        rw [e] at h3
        cases h3
      | some p =>
        rw [e] at h3
        cases h3
    | @order m ps' a b h0 h1 h2 h3 h4 =>
      have ep : ps = ps' := some_inj h0
      subst ep
      have lt : m < ps.length := (List.getElem?_eq_some_iff.mp h1).1
      have := up m a b lt h1 h2
      omega
    | @many ps' h0 h1 h2 =>
      have ep : ps = ps' := some_inj h0
      subst ep
      omega
/-- values that stand for pairs, as a row is made of them -/
theorem vals_src {K : Fg} {H : Hp} {q : Addr} {xs : List V} {ps : List (Int × Str)} (hs : Seq K H q xs) (v : Vals' K H xs ps) (few : ps.length ≤ 900) : Src K H q xs (ps.map some) := by
  have l : xs.length = ps.length := Paired.length v
  refine ⟨hs, by omega, by rw [List.length_map, l], ?_⟩
  have go : ∀ {xs : List V} {ps : List (Int × Str)}, Vals' K H xs ps → ∀ (i : Nat) (x : V), xs[i]? = some x → ∃ o : Option (Int × Str), (ps.map some)[i]? = some o ∧ Vv K H x o := by
    intro xs ps v
    induction v with
    | nil => exact fun i x h => nomatch h
    | cons h r ih =>
      intro i x e
      cases i with
      | zero =>
        cases e
        exact ⟨_, rfl, h⟩
      | succ n => exact ih n x e
  exact go v
theorem its_src {K : Fg} {H : Hp} {q : Addr} {ys : List V} {ps : List (Int × Str)} (hs : Seq K H q ys) (v : Its K H ys ps) (few : ps.length ≤ 900) : Src K H q ys (ps.map some) := by
  refine vals_src hs ?_ few
  clear hs few
  induction v with
  | nil => exact .nil
  | cons h r ih =>
    obtain ⟨a, e, i⟩ := h
    subst e
    exact .cons (.item i) ih
abbrev DefsK (K : Fg) (fd : Nat → FuncData) : Prop := DefsA fn K fd
section
variable {P : Program} {w : World} {K : Fg} {mg : Str → Option Value} {base : Heap} {fd : Nat → FuncData}
theorem itm (D : DefsK K fd) (T : Txt K mg) : ∃ d2, Itm P w K mg base (fd 4) d2 := by
  have F : FnI K (ma K (ga K "Item") "__init__") (fd 4) := D 4 _ rfl
  have G : FnOk P w K mg base (L2.CX P w) 3 (ma K (ga K "Item") "__init__") (fd 4) ["self", "rank", "name"] (spItem K) := ok_item (fB := 0) F (D 25 _ rfl) (T.fn (x := "is_rank") (by decide +kernel)) (D 24 _ rfl) (T.fn (x := "is_number") (by decide +kernel)) (D 23 _ rfl) (T.fn (x := "is_lettered") (by decide +kernel)) (D 0 _ rfl) T
  obtain ⟨d1, r1, b1⟩ := FunD.binds1 (ps := ["self", "rank", "name"]) F 3 1 (fun z => nomatch z) rfl fun _ _ _ _ _ _ _ us its h1 h2 => match us, h1, its, h2 with
    | [_, _, _], _, [_], _ => ⟨_, rfl, rfl⟩
  obtain ⟨d2, r2, b2⟩ := FunD.binds1 (ps := ["self", "rank", "name"]) F 2 0 (fun z => nomatch z) rfl fun _ _ _ _ _ _ _ us its h1 h2 => match us, h1, its, h2 with
    | [_, _], _, [_], _ => ⟨_, rfl, rfl⟩
  cases (show Vals [] d1 from r1)
  exact ⟨d2, G, b1, r2, b2⟩
abbrev FRow (K : Fg) (fd : Nat → FuncData) : Prop := FunD K "__init__" "Row.__init__" (defArgs s_row) (defBody s_row) (defScope s_row) [.ref (nilAt K)] [] (ma K (ga K "Row") "__init__") (fd 6)
theorem bRow (D : DefsK K fd) : Binds K (fd 6) ["self", "items"] [] := by
  obtain ⟨d1, r1, b1⟩ := FunD.binds1 (ps := ["self", "items"]) (show FRow K fd from D 6 _ rfl) 2 1 (fun z => nomatch z) rfl fun _ _ _ _ _ _ _ us its h1 h2 => match us, h1, its, h2 with
    | [_, _], _, [_], _ => ⟨_, rfl, rfl⟩
  cases (show Vals [] d1 from r1)
  exact b1
theorem G_as (D : DefsK K fd) (T : Txt K mg) : FnOk P w K mg base (L2.CX P w) 5 (ga K "as_items") (fd 26) ["values"] (spAs K) := by
  obtain ⟨d2, I⟩ := itm (P := P) (w := w) (base := base) D T
  have W : Wlk P w K mg base (fd 7) := ⟨ok_iter (D 7 _ rfl) T, (show FnP K "__iter__" "Row.__iter__" s_iter (ma K (ga K "Row") "__iter__") (fd 7) from D 7 _ rfl).bindsN fun _ _ _ _ _ _ us hl => match us, hl with | [_], _ => rfl⟩
  exact ok_as (D 26 _ rfl) (D 25 _ rfl) (T.fn (x := "is_rank") (by decide +kernel)) (D 24 _ rfl) (T.fn (x := "is_number") (by decide +kernel)) (D 0 _ rfl) I W T
theorem G_row (D : DefsK K fd) (T : Txt K mg) : FnOk P w K mg base (L2.CX P w) 6 (ma K (ga K "Row") "__init__") (fd 6) ["self", "items"] (spRow K) :=
  ok_row (D 6 _ rfl) (D 26 _ rfl) (T.fn (x := "as_items") (by decide +kernel)) (G_as D T)
    (D 27 _ rfl) (T.fn (x := "need_row") (by decide +kernel)) (ok_need (D 27 _ rfl) (D 5 _ rfl) (D 2 _ rfl) (D 3 _ rfl) T) T
end
end K04
namespace Tw
/-- what two rows' items of one rank give by a sign -/
def ofRank {α : Type} (sign : PySem.Str) (xs ys : List α) : List α :=
  if sign = "+" then xs ++ ys else if sign = "|" then xs ++ ys.drop xs.length else if sign = "&" then xs.take ys.length else if sign = "-" then xs.drop ys.length else xs.drop ys.length ++ ys.drop xs.length
theorem ofRank_nil {α : Type} (sign : PySem.Str) : ofRank sign ([] : List α) [] = [] := by
  unfold ofRank
  simp
end Tw
namespace K04
open PySem PySem.Spec PyProof.Rows L2 He Tw
abbrev at_ (r : Int) (ps : List (Int × Str)) : List (Int × Str) := ps.filter fun q => decide (q.1 = r)
/-- the items of rank r -/
def blk : List V → List (Int × Str) → Int → List V
  | y :: ys, p :: ps, r => if p.1 = r then y :: blk ys ps r else blk ys ps r
  | _, _, _ => []
theorem its_blk {K : Fg} {H : Hp} (r : Int) : ∀ {ys : List V} {ps : List (Int × Str)}, Its K H ys ps → Its K H (blk ys ps r) (at_ r ps)
  | _, _, .nil => .nil
  | _, _, .cons (b := p) (l₂ := ps) h t => by
    unfold blk at_
    by_cases e : p.1 = r
    · rw [if_pos e, List.filter_cons_of_pos (p := fun q : Int × Str => decide (q.1 = r)) (decide_eq_true e)]
      exact .cons h (its_blk r t)
    · rw [if_neg e, List.filter_cons_of_neg (p := fun q : Int × Str => decide (q.1 = r)) (fun z => e (of_decide_eq_true z))]
      exact its_blk r t
theorem blk_snoc (r : Int) (y : V) (p : Int × Str) : ∀ {ys : List V} {ps : List (Int × Str)}, ys.length = ps.length → blk (ys ++ [y]) (ps ++ [p]) r = if p.1 = r then blk ys ps r ++ [y] else blk ys ps r
  | [], [], _ => by
    by_cases e : p.1 = r <;> simp [blk, e]
  | [], _ :: _, h => nomatch h
  | _ :: _, [], h => nomatch h
  | a :: ys, q :: ps, h => by
    have ih := blk_snoc r y p (Nat.succ.inj h)
    simp only [List.cons_append, blk, ih]
    by_cases e : q.1 = r <;> by_cases e2 : p.1 = r <;> simp [e, e2]
theorem blk_none {r : Int} : ∀ {ys : List V} {ps : List (Int × Str)}, r ∉ rk ps → blk ys ps r = []
  | [], _, _ => by simp [blk]
  | _ :: _, [], _ => by simp [blk]
  | y :: ys, p :: ps, h => by
    unfold rk at h
    rw [List.map_cons, List.mem_cons, not_or] at h
    unfold blk
    rw [if_neg (fun z => h.1 z.symm)]
    exact blk_none h.2
theorem blk_len (r : Int) : ∀ (ys : List V) (ps : List (Int × Str)), (blk ys ps r).length ≤ ys.length
  | [], _ => by simp [blk]
  | _ :: _, [] => by simp [blk]
  | y :: ys, p :: ps => by
    unfold blk
    have := blk_len r ys ps
    split
    · rw [List.length_cons, List.length_cons]; omega
    · rw [List.length_cons]; omega
/-- the ranks in the order in which they come first -/
def fsts (xs : List Int) : List Int := xs.foldl (fun acc r => if r ∈ acc then acc else acc ++ [r]) []
theorem mem_fold {r : Int} : ∀ {xs acc : List Int}, r ∈ xs.foldl (fun acc r => if r ∈ acc then acc else acc ++ [r]) acc ↔ r ∈ acc ∨ r ∈ xs
  | [], acc => by simp
  | x :: xs, acc => by
    rw [List.foldl_cons, mem_fold]
    by_cases h : x ∈ acc
    · rw [if_pos h, List.mem_cons]
      constructor
      · rintro (z | z)
        · exact .inl z
        · exact .inr (.inr z)
      · rintro (z | rfl | z)
        · exact .inl z
        · exact .inl h
        · exact .inr z
    · rw [if_neg h, List.mem_append, List.mem_singleton, List.mem_cons, or_assoc]
theorem mem_fsts {r : Int} {xs : List Int} : r ∈ fsts xs ↔ r ∈ xs := by
  unfold fsts
  rw [mem_fold]
  simp
theorem fsts_rk {ps : List (Int × Str)} {p : Int × Str} : fsts (rk (ps ++ [p])) = if p.1 ∈ rk ps then fsts (rk ps) else fsts (rk ps) ++ [p.1] := by
  have e : rk (ps ++ [p]) = rk ps ++ [p.1] := by unfold rk; rw [List.map_append]; rfl
  rw [e]
  have : fsts (rk ps ++ [p.1]) = if p.1 ∈ fsts (rk ps) then fsts (rk ps) else fsts (rk ps) ++ [p.1] := by
    unfold fsts
    rw [List.foldl_append]
    rfl
  rw [this]
  by_cases h : p.1 ∈ rk ps
  · rw [if_pos h, if_pos (mem_fsts.mpr h)]
  · rw [if_neg h, if_neg fun z => h (mem_fsts.mp z)]
/-- the dict at d has for each rank a list of its own with the items -/
structure Grp (H0 H : Hp) (d : Addr) (kvs : List (Key × V)) (ys : List V) (ps : List (Int × Str)) : Prop where
  at_ : H d = some (.dK kvs)
  few : kvs.length ≤ ps.length
  there : ∀ r, r ∈ rk ps → ∃ l, valV kvs (Sum.inl r) = some (.ref l) ∧ H l = some (.lst (blk ys ps r)) ∧ H0 l = none
  not : ∀ r, r ∉ rk ps → valV kvs (Sum.inl r) = none
  inj : ∀ r s l, valV kvs (Sum.inl r) = some (.ref l) → valV kvs (Sum.inl s) = some (.ref l) → r = s
  keys : kvs.map Prod.fst = (fsts (rk ps)).map Sum.inl
def spBy (K : Fg) : Sp := fun vs H Q _ => ∃ (t : Addr) (ys : List V) (ps : List (Int × Str)), vs = [.ref t] ∧ SqT K H t ys ∧ Its K H ys ps ∧ ps.length ≤ 900 ∧ ∀ (d : Addr) (H' : Hp) (kvs : List (Key × V)), H d = none → Same H H' → Grp H H' d kvs ys ps → Q (.ref d) H'
abbrev s_by : Stmt := topS 21
abbrev N_by : List Str := ["items", "found", "item"]
theorem sc_by : FnScope N_by ["items"] (defScope s_by) := ⟨rfl, rfl, rfl, by decide +kernel, rfl, by decide +kernel, by decide +kernel⟩
theorem rk_snoc {ps : List (Int × Str)} {p : Int × Str} {r : Int} : r ∈ rk (ps ++ [p]) ↔ r ∈ rk ps ∨ r = p.1 := by
  unfold rk
  rw [List.map_append, List.mem_append]
  simp
section
variable {P : Program} {w : World} {K : Fg} {mg : Str → Option Value} {base : Heap} {fd : Nat → FuncData}
theorem ok_by {f : Addr} {fd : FuncData} (F : FnP K "by_rank" "by_rank" s_by f fd) (T : Txt K mg) : FnOk P w K mg base CX0 1 f fd ["items"] (spBy K) := by
  refine F.ok sc_by (fun vs H Q E h => ?_) (fun cdv A outer s H vs Q E hr h => ?_)
  · obtain ⟨t, ys, ps, rfl, _⟩ := h
    rfl
  · obtain ⟨t, ys, ps, rfl, ht, its, hn, k⟩ := h
    refine ⟨_, PSs.nox (pss_cons (ps_set (i := 1) sc_by.nd rfl (Or.inl rfl) pe_dnewN)
    (pss_cons (ps_for PassesOwn.never rfl (pi_tup (pv 0)) (pg_name (i := 2) sc_by.nd rfl (Or.inl rfl))
    (pss_one (ps_expr (pe_bm PySem.F.plainAttrs_list PySem.F.slot_list_append PySem.F.type_list_append mt_append (pe_dsetd (pv 1) (pe_fld (pv 2) rfl) (pe_lstN pa_nil) ⟨rfl, rfl, rfl, rfl⟩) (pa_cons (pv 2) pa_nil)))))
    (pss_one (ps_ret (pv 1))))), ?_⟩
    have ll := its_len its
    intro d H1 f1 m1 s1 g1
    dsimp only [gName]
    unfold tSeq
    refine ⟨_, rfl, t, rfl, ⟨_, sqT_same s1 ht⟩, for_tup (K := K) (a := t) (xs := ys) (fun i σ H' => ∃ v kvs, σ = [some (.ref t), some (.ref d), v] ∧ Same H H' ∧ Grp H H' d kvs (ys.take i) (ps.take i)) ⟨none, [], rfl, s1, ⟨g1, Nat.zero_le _, (fun r hr => nomatch hr), (fun _ _ => rfl), (fun r s l h => nomatch h), rfl⟩⟩ (fun i σ H' _ ⟨_, _, _, s', _⟩ => sqT_same s' ht) ?_ ?_⟩
    · rintro i x σ H2 hx ⟨v, kvs, rfl, s2, G⟩
      have hi : i < ys.length := (List.getElem?_eq_some_iff.mp hx).1
      have ep : ps[i]? = some ps[i] := List.getElem?_eq_getElem (by omega)
      obtain ⟨a, ea, ⟨dx, ha⟩⟩ := its_at its ep
      rw [hx] at ea
      cases ea
      have ha2 := s2 _ _ ha
      have ty : ys.take (i + 1) = ys.take i ++ [V.ref a] := by rw [List.take_add_one, hx]; rfl
      have tp : ps.take (i + 1) = ps.take i ++ [ps[i]] := by rw [List.take_add_one, ep]; rfl
      have lti : (ys.take i).length = (ps.take i).length := by rw [List.length_take, List.length_take, ll]
      have hsz : kvs.length < sizeLine := Nat.lt_of_le_of_lt G.few (Nat.lt_of_lt_of_le (show (ps.take i).length < 1000 by rw [List.length_take]; omega) (by decide))
      refine ⟨_, rfl, d, rfl, .inl ⟨kvs, .inl G.at_⟩, _, rfl, a, _, dx, _, .int ps[i].1, rfl, ha2, T.cls, T.na (by decide +kernel), rfl, sz1000 (by show 0 ≤ 1000; decide), fun l0 H3 f3 m3 s3 g3 => ⟨kvs, Sum.inl ps[i].1, s3 _ _ G.at_, rfl, hsz, fun v hv => ?_, fun hv => ?_⟩⟩
      · have hm : ps[i].1 ∈ rk (ps.take i) := Classical.byContradiction fun z => by
          rw [G.not _ z] at hv
          cases hv
        obtain ⟨l, e1, gl, nl⟩ := G.there _ hm
        rw [e1] at hv
        cases hv
        have gl3 := s3 _ _ gl
        have dl : d ≠ l := fun z => by
          have q := G.at_
          rw [z, gl] at q
          cases q
        refine ⟨.inl ⟨rfl, _, SqL.of gl3⟩, _, rfl, l, _, _, rfl, rfl, gl3, ?_, ?_⟩
        · exact Nat.lt_of_le_of_lt (blk_len _ _ _) (Nat.lt_of_lt_of_le (show (ys.take i).length < 1000 by rw [List.length_take]; omega) (by decide))
        · refine ⟨_, kvs, rfl, same_upd (s2.trans s3) nl, ⟨by rw [upd_ne dl]; exact s3 _ _ G.at_, by rw [tp, List.length_append]; have := G.few; omega, fun r hr => ?_, fun r hr => ?_, G.inj, by rw [tp, fsts_rk, if_pos hm]; exact G.keys⟩⟩
          · by_cases e : ps[i].1 = r
            · subst e
              exact ⟨l, e1, by rw [upd_same, ty, tp, blk_snoc _ _ _ lti, if_pos rfl], nl⟩
            · rw [tp] at hr
              rcases rk_snoc.mp hr with hr | hr
              · obtain ⟨l', q1, q2, q3⟩ := G.there r hr
                have n : l' ≠ l := fun z => e (G.inj _ _ l e1 (by rw [← z]; exact q1))
                exact ⟨l', q1, by rw [upd_ne n, ty, tp, blk_snoc _ _ _ lti, if_neg e]; exact s3 _ _ q2, q3⟩
              · exact absurd hr.symm e
          · rw [tp] at hr
            exact G.not r fun z => hr (rk_snoc.mpr (.inl z))
      · have hm : ps[i].1 ∉ rk (ps.take i) := fun z => by
          obtain ⟨l, e1, _⟩ := G.there _ z
          rw [hv] at e1
          cases e1
        have d0 : d ≠ l0 := ne_of_none G.at_ f3
        have g4 : (upd H3 d (.dK (putK kvs (Sum.inl ps[i].1) (V.ref l0)))) l0 = some (.lst []) := by
          rw [upd_ne d0.symm]
          exact g3
        have h0 : H l0 = none := by
          cases q : H l0 with
          | none => rfl
          | some o =>
            rw [s2 _ _ q] at f3
            cases f3
        refine ⟨.inl ⟨rfl, _, SqL.of g4⟩, _, rfl, l0, _, _, rfl, rfl, g4, by show 0 < sizeLine; decide, ?_⟩
        refine ⟨_, _, rfl, same_upd (same_upd (s2.trans s3) f1) h0, ⟨by rw [upd_ne d0]; exact upd_same, ?_, fun r hr => ?_, fun r hr => ?_, fun r s l q1 q2 => ?_, by rw [tp, fsts_rk, if_neg hm, putK_new _ (G.not _ hm), List.map_append, List.map_append, G.keys]; rfl⟩⟩
        · have := length_putK kvs (Sum.inl ps[i].1) (V.ref l0)
          have := G.few
          rw [tp, List.length_append, List.length_singleton]
          omega
        · rw [valV_put]
          by_cases e : ps[i].1 = r
          · subst e
            exact ⟨l0, if_pos rfl, by rw [upd_same, ty, tp, blk_snoc _ _ _ lti, if_pos rfl, blk_none hm], h0⟩
          · rw [tp] at hr
            rcases rk_snoc.mp hr with hr | hr
            · obtain ⟨l', q1, q2, q3⟩ := G.there r hr
              have n1 : l' ≠ l0 := ne_of_none q2 f3
              have n2 : l' ≠ d := fun z => by
                have q := G.at_
                rw [← z, q2] at q
                cases q
              exact ⟨l', by rw [if_neg (fun z => e (Sum.inl.inj z).symm)]; exact q1, by rw [upd_ne n1, upd_ne n2, ty, tp, blk_snoc _ _ _ lti, if_neg e]; exact s3 _ _ q2, q3⟩
            · exact absurd hr.symm e
        · rw [tp] at hr
          rw [valV_put, if_neg (fun z => hr (rk_snoc.mpr (.inr (Sum.inl.inj z))))]
          exact G.not r fun z => hr (rk_snoc.mpr (.inl z))
        · have no : ∀ t, valV kvs (Sum.inl t) ≠ some (.ref l0) := fun t z => by
            have ht : t ∈ rk (ps.take i) := Classical.byContradiction fun y => by
              rw [G.not _ y] at z
              cases z
            obtain ⟨l', w1, w2, _⟩ := G.there t ht
            rw [w1] at z
            cases z
            rw [f3] at w2
            cases w2
          rw [valV_put] at q1 q2
          by_cases e1 : (Sum.inl r : Key) = Sum.inl ps[i].1 <;> by_cases e2 : (Sum.inl s : Key) = Sum.inl ps[i].1
          · rw [Sum.inl.inj e1, Sum.inl.inj e2]
          · rw [if_pos e1] at q1
            rw [if_neg e2] at q2
            cases q1
            exact absurd q2 (no s)
          · rw [if_neg e1] at q1
            rw [if_pos e2] at q2
            cases q2
            exact absurd q1 (no r)
          · rw [if_neg e1] at q1
            rw [if_neg e2] at q2
            exact G.inj _ _ _ q1 q2
    · rintro σ H2 ⟨v, kvs, rfl, s2, G⟩
      rw [List.take_of_length_le (Nat.le_refl _), List.take_of_length_le (by omega)] at G
      exact ⟨_, rfl, k d H2 kvs f1 s2 G⟩
end
end K04
namespace K04
open PySem PySem.Spec PyProof.Rows L2 He Tw
abbrev Asc (ps : List (Int × Str)) : Prop := ps.Pairwise fun p q => p.1 ≤ q.1
theorem asc_up {ps : List (Int × Str)} (h : Asc ps) : Up ps ps.length := fun m a b hm ha hb => by
  obtain ⟨h1, e1⟩ := List.getElem?_eq_some_iff.mp ha
  obtain ⟨h2, e2⟩ := List.getElem?_eq_some_iff.mp hb
  rw [← e1, ← e2]
  exact List.pairwise_iff_getElem.mp h m (m + 1) h1 h2 (by omega)
def cnt (r : Int) (ps : List (Int × Str)) : Nat := (at_ r ps).length
theorem cnt_zero {r : Int} {ps : List (Int × Str)} (h : r ∉ rk ps) : cnt r ps = 0 := by
  unfold cnt at_
  rw [List.filter_eq_nil_iff.mpr fun q hq hd => h (List.mem_map.mpr ⟨q, hq, of_decide_eq_true hd⟩)]
  rfl
theorem cnt_count (r : Int) (ps : List (Int × Str)) : (rk ps).count r = cnt r ps := by
  unfold cnt at_ rk
  rw [List.count, List.countP_map, List.countP_eq_length_filter]
  refine congrArg List.length (List.filter_congr fun q _ => ?_)
  rw [Bool.eq_iff_iff]
  simp [Function.comp]
/-- ascending rows with the same numbers are equal -/
theorem asc_one {ps qs : List (Int × Str)} (hp : Asc ps) (hq : Asc qs) : rk ps = rk qs ↔ ∀ r, cnt r ps = cnt r qs := by
  constructor
  · intro e r
    rw [← cnt_count, ← cnt_count, e]
  · intro h
    refine List.Perm.eq_of_pairwise (le := (· ≤ ·)) (fun a b _ _ h1 h2 => Int.le_antisymm h1 h2) (List.pairwise_map.mpr hp) (List.pairwise_map.mpr hq) (List.perm_iff_count.mpr fun r => ?_)
    rw [cnt_count, cnt_count, h]
end K04
namespace K04
open PySem PySem.Spec PyProof.Rows L2 He Tw
theorem eqv_ints : ∀ (xs ys : List Int), PyData.eqvAll (xs.map PyData.int) (ys.map PyData.int) = decide (xs = ys)
  | [], [] => by simp [PyData.eqvAll]
  | [], y :: ys => by simp [PyData.eqvAll]
  | x :: xs, [] => by simp [PyData.eqvAll]
  | x :: xs, y :: ys => by
    have ih := eqv_ints xs ys
    rw [List.map_cons, List.map_cons]
    simp only [PyData.eqvAll, PyData.eqv, ih]
    rw [Bool.eq_iff_iff]
    simp
/-- == of rows, both outcomes -/
def spEqB (K : Fg) : Sp := fun vs H Q _ => ∃ (a b : Addr) (ys zs : List V) (ps us : List (Int × Str)), vs = [.ref a, .ref b] ∧ RowAt K H a ys ∧ Its K H ys ps ∧ ys.length ≤ 900 ∧ RowAt K H b zs ∧ Its K H zs us ∧ zs.length ≤ 900 ∧ ∀ H', Same H H' → Q (.bl (decide (rk ps = rk us))) H'
/-- how many of a rank -/
def spNumR (K : Fg) : Sp := fun vs H Q _ => ∃ (a : Addr) (ys : List V) (ps : List (Int × Str)) (r : Int), vs = [.ref a, .int r] ∧ RowAt K H a ys ∧ Its K H ys ps ∧ ys.length ≤ 900 ∧ ∀ H', Same H H' → Q (.int (cnt r ps : Nat)) H'
abbrev s_numr : Stmt := inClass (topS 25) 12
theorem sc_numr : FnScope ["self", "rank"] ["self", "rank"] (defScope s_numr) := ⟨rfl, rfl, rfl, by decide +kernel, rfl, by decide +kernel, by decide +kernel⟩
section
variable {P : Program} {w : World} {K : Fg} {mg : Str → Option Value} {base : Heap}
theorem ok_eqb {f : Addr} {fd fdK : FuncData} (F : FnP K "__eq__" "Row.__eq__" s_eqr f fd) (FK : FnP K "ranks" "Row.ranks" s_rks (ma K (ga K "Row") "ranks") fdK) (T : Txt K mg) : FnOk P w K mg base CX0 2 f fd ["self", "other"] (spEqB K) := by
  have zisi : mg "isinstance" = none := T.bl (by decide +kernel)
  have gR : mg "Row" = some (.ref (ga K "Row")) := T.cl (by decide +kernel)
  have G_rks : FnOk P w K mg base CX0 1 _ fdK ["self"] (spRanks K) := ok_rks FK T
  have b_rks : Binds K fdK ["self"] [] := FK.bindsN fun _ _ _ _ _ _ us hl => match us, hl with | [_], _ => rfl
  have mR := T.mtR2 (m := "ranks") (by decide +kernel)
  refine F.ok sc_eqr (fun vs H Q E h => ?_) (fun cdv A outer s H vs Q E hr h => ?_)
  · obtain ⟨a, b, ys, zs, ps, us, rfl, _⟩ := h
    rfl
  · obtain ⟨a, b, ys, zs, ps, us, rfl, hA, iA, nA, hB, iB, nB, k⟩ := h
    refine ⟨_, PSs.nox (pss_one (ps_ret (pe_and (pe_callB call_isA (by rfl) zisi (by decide +kernel) (pa_cons (pv 1) (pa_cons (pe_glob (v := .ref (ga K "Row")) rfl gR rfl) pa_nil))) (pe_one (pe_cmpR (op_eqD hr.units) (pe_meth0 (E := E0) (pv 0) T.clsR mR G_rks (hr.mono (by decide)) b_rks .nil pass0) (pe_meth0 (E := E0) (pv 1) T.clsR mR G_rks (hr.mono (by decide)) b_rks .nil pass0) (nomark _)))))), ?_⟩
    obtain ⟨da, ta, ha, hta⟩ := id hA
    obtain ⟨db, tb, hb, htb⟩ := id hB
    have ty : TyX K H (.ref b) (.ref (ga K "Row")) := .base (.ins hb T.clsR (T.ob (by decide +kernel)).2 T.xo.hn T.xo.ht (T.ob (by decide +kernel)).1)
    refine ⟨_, rfl, .ref b, .ref (ga K "Row"), _, _, _, rfl, .own _, .inl ty, T.kitRR, _, rfl, ?_⟩
    refine ⟨_, rfl, a, da, _, rfl, ha, rfl, a, ys, ps, rfl, hA, iA, nA, fun l1 H1 h1 s1 g1 => ?_⟩
    refine ⟨_, rfl, b, db, _, rfl, s1 _ _ hb, rfl, b, zs, us, rfl, hB.same s1, iB.same s1, nB, fun l2 H2 h2 s2 g2 => ?_⟩
    refine ⟨.list ((rk ps).map .int), .list ((rk us).map .int), .lst (SqL.of (s2 _ _ g1)) (dp_ints _), .lst (SqL.of g2) (dp_ints _), shaped_ints _, shaped_ints _, ?_⟩
    have e : PyData.eqv (.list ((rk ps).map .int)) (.list ((rk us).map .int)) = decide (rk ps = rk us) := by
      rw [show PyData.eqv (.list ((rk ps).map .int)) (.list ((rk us).map .int)) = PyData.eqvAll ((rk ps).map .int) ((rk us).map .int) by simp only [PyData.eqv], eqv_ints]
    rw [e]
    exact k H2 (s1.trans s2)
theorem ok_numr {f : Addr} {fd fdK : FuncData} (F : FnP K "number" "Row.number" s_numr f fd) (FK : FnP K "ranks" "Row.ranks" s_rks (ma K (ga K "Row") "ranks") fdK) (T : Txt K mg) : FnOk P w K mg base CX0 2 f fd ["self", "rank"] (spNumR K) := by
  have G_rks : FnOk P w K mg base CX0 1 _ fdK ["self"] (spRanks K) := ok_rks FK T
  have b_rks : Binds K fdK ["self"] [] := FK.bindsN fun _ _ _ _ _ _ us hl => match us, hl with | [_], _ => rfl
  have mR := T.mtR2 (m := "ranks") (by decide +kernel)
  refine F.ok sc_numr (fun vs H Q E h => ?_) (fun cdv A outer s H vs Q E hr h => ?_)
  · obtain ⟨a, ys, ps, r, rfl, _⟩ := h
    rfl
  · obtain ⟨a, ys, ps, r, rfl, hA, iA, nA, k⟩ := h
    refine ⟨_, PSs.nox (pss_one (ps_ret (pe_bm PySem.F.plainAttrs_list PySem.F.slot_list_count PySem.F.type_list_count mt_lcount (pe_meth0 (E := E0) (pv 0) T.clsR mR G_rks (hr.mono (by decide)) b_rks .nil pass0) (pa_cons (pv 1) pa_nil)))), ?_⟩
    obtain ⟨da, ta, ha, hta⟩ := id hA
    refine ⟨_, rfl, a, da, _, rfl, ha, rfl, a, ys, ps, rfl, hA, iA, nA, fun l1 H1 h1 s1 g1 => ?_⟩
    refine ⟨.inl ⟨rfl, _, SqL.of g1⟩, _, rfl, l1, rk ps, r, rfl, rfl, SqL.of g1, ?_⟩
    rw [cnt_count]
    exact k H1 s1
end
end K04
namespace K04
open PySem PySem.Spec PyProof.Rows L2 He Tw
def inB (ps qs : List (Int × Str)) : Bool := ps.all fun q => decide (cnt q.1 ps ≤ cnt q.1 qs)
theorem inB_iff {ps qs : List (Int × Str)} : inB ps qs = true ↔ ∀ r, cnt r ps ≤ cnt r qs := by
  unfold inB
  rw [List.all_eq_true]
  constructor
  · intro h r
    by_cases hr : r ∈ rk ps
    · obtain ⟨q, hq, rfl⟩ := List.mem_map.mp hr
      exact of_decide_eq_true (h q hq)
    · rw [cnt_zero hr]
      exact Nat.zero_le _
  · exact fun h q _ => decide_eq_true (h q.1)
def spWithin (K : Fg) : Sp := fun vs H Q _ => ∃ (a b : Addr) (ys zs : List V) (ps us : List (Int × Str)), vs = [.ref a, .ref b] ∧ RowAt K H a ys ∧ Its K H ys ps ∧ ys.length ≤ 900 ∧ Asc ps ∧ RowAt K H b zs ∧ Its K H zs us ∧ zs.length ≤ 900 ∧ Asc us ∧ ∀ H', Same H H' → Q (.bl (inB ps us)) H'
end K04
/-! Gfz: while a generator sleeps, nothing that can't wake it changes it. A run that holds with the sleeper's continuation taken away holds with it, and leaves the sleeper as it was. -/
namespace Tw
open PySem PyProof.Rows L2 GenW

/-- a sleeper that can't be woken -/
def dumb : GenState → GenState
  | .suspended _ l c p fs cl => .suspended (fun _ => .unsupported "") l c p fs cl
  | x => x
def sleeps : GenState → Prop
  | .suspended .. => True
  | _ => False
theorem dumb_seen (x : GenState) : (dumb x).seen = x.seen := by cases x <;> rfl
theorem dumb_bare (x : GenState) : (dumb x).bare = x.bare := by cases x <;> rfl
theorem no_unsup0 {M : Model} {m : String} {Γ : Ctx} {p : Pos} {s s' : Shared} {e : End} (h : Runs M Γ p (.unsupported m) [] s e s') : False := by cases h
theorem no_unsup {M : Model} {m : String} {Γ : Ctx} {p : Pos} {fs : List Frame} {s s' : Shared} {e : End} (h : Runs M Γ p (.unsupported m) fs s e s') : False := by
  cases fs with
  | nil => exact no_unsup0 h
  | cons f fs => cases h <;> (rename_i h1; first | exact no_unsup0 h1 | (rename_i h2; exact no_unsup0 h2) | skip) <;> rename_i h1 h2 h3 <;> first | exact no_unsup0 h1 | exact no_unsup0 h2 | exact no_unsup0 h3

/-- the two tables of generators: alike, but that some sleepers of the first can't be woken; x sleeps at g -/
structure GRel (g : Nat) (x : GenState) (D G : Array GenState) : Prop where
  size : D.size = G.size
  at_ : ∀ (i : Nat) (y : GenState), D[i]? = some y → (G[i]? = some y ∧ ∀ k l c p fs cl, y = .suspended k l c p fs cl → splitAtGen fs = none) ∨ ∃ z, G[i]? = some z ∧ y = dumb z ∧ sleeps z
  here : G[g]? = some x
  hereD : D[g]? = some (dumb x)
  sl : sleeps x
section
variable {g : Nat} {x : GenState} {D G : Array GenState}
theorem GRel.alike (h : GRel g x D G) {i : Nat} {y : GenState} (e : D[i]? = some y) : ∃ z, G[i]? = some z ∧ y.seen = z.seen := by
  rcases h.at_ i y e with ⟨e1, _⟩ | ⟨z, e1, rfl, _⟩
  · exact ⟨y, e1, rfl⟩
  · exact ⟨z, e1, dumb_seen z⟩
theorem GRel.grow (h : GRel g x D G) (c : Code) : GRel g x (D.push (.fresh c)) (G.push (.fresh c)) where
  size := by rw [Array.size_push, Array.size_push, h.size]
  at_ := fun i y e => by
    rw [Array.getElem?_push] at e
    rw [Array.getElem?_push, ← h.size]
    split at e
    · rename_i hi
      cases e
      rw [if_pos hi]
      exact .inl ⟨rfl, fun k l c p fs cl z => by cases z⟩
    · rename_i hi
      rw [if_neg hi]
      exact h.at_ i y e
  here := by
    have := (Array.getElem?_eq_some_iff.mp h.here).1
    rw [Array.getElem?_push, if_neg (by omega)]; exact h.here
  hereD := by
    have := (Array.getElem?_eq_some_iff.mp h.hereD).1
    rw [Array.getElem?_push, if_neg (by omega)]; exact h.hereD
  sl := h.sl
theorem GRel.set (h : GRel g x D G) {j : Nat} {y : GenState} (hj : j ≠ g) (hy : ∀ k l c p fs cl, y = .suspended k l c p fs cl → splitAtGen fs = none) : GRel g x (D.setIfInBounds j y) (G.setIfInBounds j y) where
  size := by rw [Array.size_setIfInBounds, Array.size_setIfInBounds, h.size]
  at_ := fun i z e => by
    by_cases hi : i = j
    · subst hi
      have hlt : i < D.size := by
        have := (Array.getElem?_eq_some_iff.mp e).1
        rw [Array.size_setIfInBounds] at this
        exact this
      rw [Array.getElem?_setIfInBounds_self_of_lt hlt] at e
      cases e
      exact .inl ⟨Array.getElem?_setIfInBounds_self_of_lt (by rw [← h.size]; exact hlt), hy⟩
    · rw [Array.getElem?_setIfInBounds_ne (Ne.symm hi)] at e ⊢
      exact h.at_ i z e
  here := by rw [Array.getElem?_setIfInBounds_ne hj]; exact h.here
  hereD := by rw [Array.getElem?_setIfInBounds_ne hj]; exact h.hereD
  sl := h.sl
theorem GRel.atFresh (h : GRel g x D G) {i : Nat} {c : Code} (e : D[i]? = some (.fresh c)) : G[i]? = some (.fresh c) ∧ i ≠ g := by
  constructor
  · rcases h.at_ i _ e with ⟨e1, _⟩ | ⟨z, e1, ez, hz⟩
    · exact e1
    · cases z with
      | suspended k l c p fs cl => cases ez
      | _ => exact hz.elim
  · rintro rfl
    have := h.hereD
    rw [e] at this
    have hs := h.sl
    cases x with
    | suspended k l c p fs cl => cases this
    | _ => exact hs.elim
theorem GRel.plain (h : GRel g x D G) {i : Nat} {y : GenState} (e : D[i]? = some y) (hy : y = .running ∨ y = .finished) : G[i]? = some y := by
  rcases h.at_ i _ e with ⟨e1, _⟩ | ⟨z, e1, ez, hz⟩
  · exact e1
  · cases z with
    | suspended k l c p fs cl => rcases hy with rfl | rfl <;> cases ez
    | _ => exact hz.elim
theorem GRel.bare (h : GRel g x D G) (b : AllBare D) : AllBare G := fun y hy => by
  obtain ⟨i, hi, e⟩ := Array.mem_iff_getElem.mp hy
  have e1 : G[i]? = some y := by rw [Array.getElem?_eq_getElem hi, e]
  have hd : i < D.size := by rw [h.size]; exact hi
  have e2 : D[i]? = some D[i] := Array.getElem?_eq_getElem hd
  have hb := b _ (Array.getElem_mem hd)
  rcases h.at_ i _ e2 with ⟨e3, _⟩ | ⟨z, e3, ez, _⟩
  · rw [e1] at e3; cases e3; exact hb
  · rw [e1] at e3; cases e3
    rw [ez, dumb_bare] at hb
    exact hb
end
theorem GRel.wake {M : Model} {g : Nat} {x : GenState} {D G : Array GenState} (h : GRel g x D G) {i : Nat} {k₀ : Resume → Sem PySem.Fin} {l₀ : List Value} {c₀ : Code} {p₀ : Pos} {fs : List Frame} {cl : Bool} {Γ : Ctx} {p : Pos} {r : Resume} {s s' : Shared} {e : End}
    (e0 : D[i]? = some (.suspended k₀ l₀ c₀ p₀ fs cl)) (hr : Runs M Γ p (k₀ r) fs s e s') : i ≠ g ∧ G[i]? = some (.suspended k₀ l₀ c₀ p₀ fs cl) ∧ splitAtGen fs = none := by
  refine ⟨?_, ?_⟩
  · rintro rfl
    have := h.hereD
    rw [e0] at this
    have hs := h.sl
    cases x with
    | suspended k l c p fs cl =>
      simp only [dumb, Option.some.injEq, GenState.suspended.injEq] at this
      obtain ⟨rfl, _⟩ := this
      exact no_unsup hr
    | _ => exact hs.elim
  · rcases h.at_ _ _ e0 with ⟨e', ho⟩ | ⟨z, e', ez, hz⟩
    · exact ⟨e', ho _ _ _ _ _ _ rfl⟩
    · cases z with
      | suspended k l c p fs cl =>
        simp only [dumb, GenState.suspended.injEq] at ez
        obtain ⟨rfl, _⟩ := ez
        exact (no_unsup hr).elim
      | _ => exact hz.elim
/-- what a run ends with is good: a sleeper's frames are its own -/
def EndOk : End → Prop
  | .susp _ _ _ _ _ _ fs => splitAtGen fs = none
  | .ret _ => True
theorem split_append : ∀ {a b : List Frame}, splitAtGen a = none → splitAtGen b = none → splitAtGen (a ++ b) = none
  | [], b, _, h => h
  | .ret k h g l c p kp :: a, b, ha, hb => by
    have ha' : splitAtGen a = none := by
      simp only [splitAtGen, Option.map_eq_none_iff] at ha
      exact ha
    simp only [List.cons_append, splitAtGen, split_append ha' hb, Option.map_none]
  | .gen .. :: a, b, ha, hb => by simp [splitAtGen] at ha
theorem endOk_gen {e : End} (h : EndOk e) : ∀ k l c p fs cl, e.genState = .suspended k l c p fs cl → splitAtGen fs = none := by
  intro k l c p fs cl he
  cases e with
  | ret r => cases he
  | susp v g0 l0 k0 c0 p0 fs0 =>
    simp only [End.genState, GenState.suspended.injEq] at he
    obtain ⟨_, _, _, _, rfl, _⟩ := he
    exact h
/-- THE TWO RUN ALIKE -/
theorem lock {M : Model} {g : Nat} {x : GenState} {Γ : Ctx} {p : Pos} {t : Sem PySem.Fin} {fs : List Frame} {s s' : Shared} {e : End} (h : Runs M Γ p t fs s e s') :
    splitAtGen fs = none → ∀ G, GRel g x s.gens G → ∃ G', Runs M Γ p t fs { s with gens := G } e { s' with gens := G' } ∧ GRel g x s'.gens G' ∧ EndOk e := by
  induction h with
  | done => exact fun _ G r => ⟨G, .done, r, trivial⟩
  | raise => exact fun _ G r => ⟨G, .raise, r, trivial⟩
  | again q _ ih => intro hf G r; obtain ⟨G', h1, h2, h3⟩ := ih rfl G r; exact ⟨G', .again q h1, h2, h3⟩
  | rule _ ih => intro hf G r; obtain ⟨G', h1, h2, h3⟩ := ih rfl G r; exact ⟨G', .rule h1, h2, h3⟩
  | «at» _ ih => intro hf G r; obtain ⟨G', h1, h2, h3⟩ := ih rfl G r; exact ⟨G', .at h1, h2, h3⟩
  | load e _ ih => intro hf G r; obtain ⟨G', h1, h2, h3⟩ := ih rfl G r; exact ⟨G', .load e h1, h2, h3⟩
  | update e _ ih => intro hf G r; obtain ⟨G', h1, h2, h3⟩ := ih rfl G r; exact ⟨G', .update e h1, h2, h3⟩
  | loadIfAlive _ ih => intro hf G r; obtain ⟨G', h1, h2, h3⟩ := ih rfl G r; exact ⟨G', .loadIfAlive h1, h2, h3⟩
  | point _ ih => intro hf G r; obtain ⟨G', h1, h2, h3⟩ := ih rfl G r; exact ⟨G', .point h1, h2, h3⟩
  | alloc _ ih => intro hf G r; obtain ⟨G', h1, h2, h3⟩ := ih rfl G r; exact ⟨G', .alloc h1, h2, h3⟩
  | fresh _ ih => intro hf G r; obtain ⟨G', h1, h2, h3⟩ := ih rfl G r; exact ⟨G', .fresh h1, h2, h3⟩
  | ask _ ih => intro hf G r; obtain ⟨G', h1, h2, h3⟩ := ih rfl G r; exact ⟨G', .ask h1, h2, h3⟩
  | choose q _ ih => intro hf G r; obtain ⟨G', h1, h2, h3⟩ := ih rfl G r; exact ⟨G', .choose q h1, h2, h3⟩
  | os _ ih => intro hf G r; obtain ⟨G', h1, h2, h3⟩ := ih rfl G r; exact ⟨G', .os h1, h2, h3⟩
  | handled _ ih => intro hf G r; obtain ⟨G', h1, h2, h3⟩ := ih rfl G r; exact ⟨G', .handled h1, h2, h3⟩
  | genState e _ ih =>
    intro hf G r
    obtain ⟨z, ez, es⟩ := r.alike e
    obtain ⟨G', h1, h2, h3⟩ := ih rfl G r
    rw [es] at h1
    exact ⟨G', .genState ez h1, h2, h3⟩
  | stack _ ih => intro hf G r; obtain ⟨G', h1, h2, h3⟩ := ih rfl G r; exact ⟨G', .stack h1, h2, h3⟩
  | thread _ ih => intro hf G r; obtain ⟨G', h1, h2, h3⟩ := ih rfl G r; exact ⟨G', .thread h1, h2, h3⟩
  | newGen _ ih =>
    intro hf G r
    obtain ⟨G', h1, h2, h3⟩ := ih rfl (G.push _) (r.grow _)
    refine ⟨G', .newGen ?_, h2, h3⟩
    rw [← r.size]
    exact h1
  | call _ _ ih1 ih2 =>
    intro hf G r
    obtain ⟨G1, h1, h2, h3⟩ := ih1 rfl G r
    obtain ⟨G2, k1, k2, k3⟩ := ih2 rfl G1 h2
    exact ⟨G2, .call h1 k1, k2, k3⟩
  | callSusp _ ih =>
    intro hf G r
    obtain ⟨G1, h1, h2, h3⟩ := ih rfl G r
    exact ⟨G1, .callSusp h1, h2, split_append h3 rfl⟩
  | yield => exact fun _ G r => ⟨G, .yield, r, rfl⟩
  | resumeFresh e _ q _ ih1 ih2 =>
    intro hf G r
    obtain ⟨e', hne⟩ := r.atFresh e
    obtain ⟨G1, h1, h2, h3⟩ := ih1 rfl _ (r.set (y := .running) hne fun _ _ _ _ _ _ z => by cases z)
    obtain ⟨G2, k1, k2, k3⟩ := ih2 rfl _ (h2.set (y := End.genState _) hne (endOk_gen h3))
    exact ⟨G2, .resumeFresh e' h1 q k1, k2, k3⟩
  | resumeSuspended e hr q _ ih1 ih2 =>
    intro hf G r
    obtain ⟨hne, e', ho⟩ := r.wake e hr
    obtain ⟨G1, h1, h2, h3⟩ := ih1 ho _ (r.set (y := .running) hne fun _ _ _ _ _ _ z => by cases z)
    obtain ⟨G2, k1, k2, k3⟩ := ih2 rfl _ (h2.set (y := End.genState _) hne (endOk_gen h3))
    exact ⟨G2, .resumeSuspended e' h1 q k1, k2, k3⟩
  | resumeJustStarted e hv _ ih =>
    intro hf G r
    obtain ⟨G', h1, h2, h3⟩ := ih rfl G r
    exact ⟨G', .resumeJustStarted (r.atFresh e).1 hv h1, h2, h3⟩
  | resumeThrowFresh e _ ih =>
    intro hf G r
    obtain ⟨e', hne⟩ := r.atFresh e
    obtain ⟨G', h1, h2, h3⟩ := ih rfl _ (r.set (y := .finished) hne fun _ _ _ _ _ _ z => by cases z)
    exact ⟨G', .resumeThrowFresh e' h1, h2, h3⟩
  | resumeRunning e _ ih =>
    intro hf G r
    obtain ⟨G', h1, h2, h3⟩ := ih rfl G r
    exact ⟨G', .resumeRunning (r.plain e (.inl rfl)) h1, h2, h3⟩
  | resumeFinished e _ ih =>
    intro hf G r
    obtain ⟨G', h1, h2, h3⟩ := ih rfl G r
    exact ⟨G', .resumeFinished (r.plain e (.inr rfl)) h1, h2, h3⟩
  | segRet _ _ ih1 ih2 =>
    intro hf G r
    simp only [splitAtGen, Option.map_eq_none_iff] at hf
    obtain ⟨G1, h1, h2, h3⟩ := ih1 rfl G r
    obtain ⟨G2, k1, k2, k3⟩ := ih2 hf G1 h2
    exact ⟨G2, .segRet h1 k1, k2, k3⟩
  | segGen _ _ ih1 ih2 => intro hf; simp [splitAtGen] at hf
  | segSuspOut hs _ ih =>
    intro hf G r
    obtain ⟨G1, h1, h2, h3⟩ := ih rfl G r
    exact ⟨G1, .segSuspOut hs h1, h2, split_append h3 hs⟩
  | segSuspGen hs _ _ _ ih1 ih2 => intro hf; rw [hs] at hf; cases hf

section
variable {M : Model} {g : Nat} {x : GenState}
open Sem (wp)
theorem wp_lock {α : Type} {Γ : Ctx} (t : Sem α) : ∀ (Q : α → Pos → Shared → Prop) (E : Value → Pos → Shared → Prop) (p : Pos) (s : Shared) (G : Array GenState), GRel g x s.gens G → wp M Γ t Q E p s →
    wp M Γ t (fun a p' s' => ∃ D, GRel g x D s'.gens ∧ Q a p' { s' with gens := D }) (fun e p' s' => ∃ D, GRel g x D s'.gens ∧ E e p' { s' with gens := D }) p { s with gens := G } := by
  induction t with
  | pure a => intro Q E p s G r h; exact ⟨s.gens, r, h⟩
  | raise e => intro Q E p s G r h; exact ⟨s.gens, r, h⟩
  | unsupported _ => intro Q E p s G _ h; exact h
  | finish _ => intro Q E p s G _ h; exact h
  | rule _ k ih => intro Q E p s G r h; exact ih () Q E p s G r h
  | «at» p' k ih => intro Q E p s G r h; exact ih () Q E p' s G r h
  | load a _ k ih => intro Q E p s G r h; obtain ⟨o, ho, h⟩ := h; exact ⟨o, ho, ih o Q E p s G r h⟩
  | update a _ f k ih => intro Q E p s G r h; exact ⟨h.1, ih () Q E p { s with heap := s.heap.update a f } G r h.2⟩
  | loadIfAlive a k ih => intro Q E p s G r h; exact ih _ Q E p s G r h
  | point _ k ih => intro Q E p s G r h; exact ih () Q E p s G r h
  | register _ _ => intro Q E p s G _ h; exact h
  | alloc o k ih => intro Q E p s G r h; exact ih _ Q E p { s with heap := s.heap.push o } G r h
  | fresh k ih => intro Q E p s G r h; exact ih _ Q E p { s with toks := s.toks + 1 } G r h
  | ask k ih => intro Q E p s G r h; exact ih _ Q E p s G r h
  | choose src m k ih => intro Q E p s G r h; exact ⟨h.1, ih _ Q E p { s with drawn := s.drawn.bump src } G r h.2⟩
  | os q _ k ih => intro Q E p s G r h; exact ih _ Q E p { s with os := (Os.step s.os q).1 } G r h
  | call c hd _ _ k ih =>
    intro Q E p s G r h
    obtain ⟨res, s', hr, h⟩ := h
    obtain ⟨G', h1, h2, _⟩ := lock hr rfl G r
    exact ⟨res, _, h1, ih res Q E p s' G' h2 h⟩
  | handled own k ih => intro Q E p s G r h; exact ih _ Q E p s G r h
  | genState g' k ih =>
    intro Q E p s G r h
    obtain ⟨st, hs, h⟩ := h
    obtain ⟨z, ez, es⟩ := r.alike hs
    refine ⟨z, ez, ?_⟩
    rw [← es]
    exact ih _ Q E p s G r h
  | newGen c k ih =>
    intro Q E p s G r h
    have := ih s.gens.size Q E p { s with gens := s.gens.push (.fresh c) } (G.push (.fresh c)) (r.grow c) h
    show wp M Γ (k G.size) _ _ p _
    rw [← r.size]
    exact this
  | resume g' rr _ k ih =>
    intro Q E p s G r h
    obtain ⟨res, s', hw, h⟩ := h
    have key : ∃ G', Wakes M Γ p g' rr { s with gens := G } res { s' with gens := G' } ∧ GRel g x s'.gens G' := by
      unfold Wakes at hw
      split at hw
      · exact hw.elim
      · rename_i c e
        obtain ⟨e', hne⟩ := r.atFresh e
        unfold Wakes
        rw [show ({ s with gens := G } : Shared).gens[g']? = some (.fresh c) from e']
        split at hw
        · obtain ⟨e₁, s₁, hr, hq, rfl, rfl⟩ := hw
          obtain ⟨G1, h1, h2, h3⟩ := lock hr rfl _ (r.set (y := .running) hne fun _ _ _ _ _ _ z => by cases z)
          exact ⟨G1.setIfInBounds g' e₁.genState, ⟨e₁, _, h1, hq, rfl, rfl⟩, h2.set hne (endOk_gen h3)⟩
        · obtain ⟨rfl, rfl⟩ := hw
          exact ⟨G, ⟨rfl, rfl⟩, r⟩
        · obtain ⟨rfl, rfl⟩ := hw
          exact ⟨G.setIfInBounds g' .finished, ⟨rfl, rfl⟩, r.set hne fun _ _ _ _ _ _ z => by cases z⟩
      · rename_i k₀ l₀ c₀ p₀ fs cl e
        obtain ⟨e₁, s₁, hr, hq, rfl, rfl⟩ := hw
        obtain ⟨hne, e', ho⟩ := r.wake e hr
        obtain ⟨G1, h1, h2, h3⟩ := lock hr ho _ (r.set (y := .running) hne fun _ _ _ _ _ _ z => by cases z)
        refine ⟨G1.setIfInBounds g' e₁.genState, ?_, h2.set hne (endOk_gen h3)⟩
        unfold Wakes
        rw [show ({ s with gens := G } : Shared).gens[g']? = some (.suspended k₀ l₀ c₀ p₀ fs cl) from e']
        exact ⟨e₁, _, h1, hq, rfl, rfl⟩
      · rename_i e
        obtain ⟨rfl, rfl⟩ := hw
        refine ⟨G, ?_, r⟩
        unfold Wakes
        rw [show ({ s' with gens := G } : Shared).gens[g']? = some .running from r.plain e (.inl rfl)]
        exact ⟨rfl, rfl⟩
      · rename_i e
        obtain ⟨rfl, rfl⟩ := hw
        refine ⟨G, ?_, r⟩
        unfold Wakes
        rw [show ({ s' with gens := G } : Shared).gens[g']? = some .finished from r.plain e (.inr rfl)]
        exact ⟨rfl, rfl⟩
    obtain ⟨G', h1, h2⟩ := key
    exact ⟨res, _, h1, ih res Q E p s' G' h2 h⟩
  | yield _ _ _ _ => intro Q E p s G _ h; exact h
  | stack k ih => intro Q E p s G r h; exact ih _ Q E p s G r h
  | fork _ _ => intro Q E p s G _ h; exact h
  | thread k ih => intro Q E p s G r h; exact ih _ Q E p s G r h
  | await _ _ _ _ _ => intro Q E p s G _ h; exact h

/-- the table with every sleeper made dumb -/
def dumbs (G : Array GenState) : Array GenState := G.map dumb
theorem dumbs_at {G : Array GenState} {i : Nat} : (dumbs G)[i]? = G[i]?.map dumb := by unfold dumbs; simp
theorem dumbs_rel {G : Array GenState} (h : G[g]? = some x) (hs : sleeps x) : GRel g x (dumbs G) G where
  size := by unfold dumbs; simp
  at_ := fun i y e => by
    rw [dumbs_at] at e
    cases ez : G[i]? with
    | none => rw [ez] at e; cases e
    | some z =>
      rw [ez] at e
      simp only [Option.map_some, Option.some.injEq] at e
      subst e
      cases z with
      | suspended k l c p fs cl => exact .inr ⟨_, rfl, rfl, trivial⟩
      | _ => exact .inl ⟨rfl, fun _ _ _ _ _ _ z => by cases z⟩
  here := h
  hereD := by rw [dumbs_at, h]; rfl
  sl := hs
theorem dumbs_bare {G : Array GenState} (h : AllBare G) : AllBare (dumbs G) := fun y hy => by
  unfold dumbs at hy
  obtain ⟨z, hz, rfl⟩ := Array.mem_map.mp hy
  rw [dumb_bare]; exact h z hz
/-- THE RULE: run it with the sleepers dumb; the sleeper stays -/
theorem asleep {α : Type} {A : Around} {t : Sem α} {Q : α → Shared → Prop} {E : Value → Shared → Prop} {s : Shared} (hx : s.gens[g]? = some x) (hs : sleeps x) (h : wpAny M A t Q E { s with gens := dumbs s.gens }) :
    wpAny M A t (fun a s' => s'.gens[g]? = some x ∧ ∃ D, (AllBare D → AllBare s'.gens) ∧ Q a { s' with gens := D }) (fun e s' => s'.gens[g]? = some x ∧ ∃ D, (AllBare D → AllBare s'.gens) ∧ E e { s' with gens := D }) s := by
  intro Γ p hΓ
  have := wp_lock (M := M) t _ _ p { s with gens := dumbs s.gens } s.gens (dumbs_rel hx hs) (h Γ p hΓ)
  refine Sem.wp_mono _ _ t (fun a p' s' => ?_) (fun e p' s' => ?_) _ _ this
  · rintro ⟨D, r, q⟩
    exact ⟨r.here, D, r.bare, q⟩
  · rintro ⟨D, r, q⟩
    exact ⟨r.here, D, r.bare, q⟩
end
end Tw
/-! Ggn: a generator walked by a comprehension (own rule: the walk's state may lie in the table of generators). -/
namespace Tw
open PySem PyProof.Rows L2 GenW

section
variable {X : Cx} {pins : List (Addr × Obj)} {σ : L2.St} {H : Hp} {s : Shared}
theorem regen {D : Array GenState} (I : Inv X pins σ H { s with gens := D }) (hb : AllBare D → AllBare s.gens) : Inv X pins σ H s :=
  ⟨I.ok, I.os, hb I.bare, I.base, I.loc, I.cell, I.free, I.freeC, I.pin, I.hok, I.len⟩
theorem dull (I : Inv X pins σ H s) : Inv X pins σ H { s with gens := dumbs s.gens } :=
  ⟨I.ok, I.os, dumbs_bare I.bare, I.base, I.loc, I.cell, I.free, I.freeC, I.pin, I.hok, I.len⟩
end
/-- what runs while x sleeps at g -/
theorem thnZ {α : Type} {M : Model} {A : Around} {t : Sem α} {Q Q' : α → Shared → Prop} {E : Value → Shared → Prop} {s : Shared} {g : Nat} {x : GenState} (hx : s.gens[g]? = some x) (hs : sleeps x)
    (h : wpAny M A t Q (fun _ _ => False) { s with gens := dumbs s.gens })
    (hQ : ∀ a s' D, (AllBare D → AllBare s'.gens) → s'.gens[g]? = some x → Q a { s' with gens := D } → Q' a s') : wpAny M A t Q' E s :=
  wpAny_mono (asleep hx hs h) (fun a s' ⟨h1, D, h2, h3⟩ => hQ a s' D h2 h1 h3) fun e s' ⟨_, _, _, h3⟩ => h3.elim

/-- a walk whose state may lie in the table of generators; fp: the objects that are its own at this turn; stk: the frames it is woken from -/
structure TurnG (P : Program) (w : World) (K : PySem.W.Frag) (mg : Str → Option Value) (base : Heap) (tg : Expr) (J : It) (it : Addr) (k : Nat) (stk : List Env) (tn : Nat → List Addr → Heap → Array GenState → Prop) : Prop where
  obj : ∀ i fp h G, tn i fp h G → ∀ b ∈ fp, ∃ o, h.get? b = some o ∧ ∀ v, o.data ≠ .cell v
  keep : ∀ i fp h h' G, tn i fp h G → (∀ b ∈ fp, ∀ o, h.get? b = some o → h'.get? b = some o) → tn i fp h' G
  asl : ∀ i fp h G, tn (i + 1) fp h G → ∃ (g : Nat) (x : GenState), G[g]? = some x ∧ sleeps x ∧ ∀ G' : Array GenState, G'[g]? = some x → tn (i + 1) fp h G'
  item : ∀ (X : Cx), X.prog = P → X.w = w → X.K = K → X.mg = mg → X.base = base → X.stack = stk → X.calm = true → Room k X.A → ∀ (i : Nat) (fp : List Addr) (pins : List (Addr × Obj)) (s : Shared) (σ : L2.St) (H : Hp),
    Inv X pins σ H s → (∀ b ∈ fp, FpOk X pins H b) → tn i fp s.heap s.gens → J.go i H →
    wpAny (model P w) X.A (pyNext (.ref it)) (fun r s1 => ∃ u, r = some u ∧
      wpAny (model P w) X.A (letOwnedTupleGo tg (.ref it) u) (fun _ s2 => ∃ x H' fp', Inv X pins σ H' s2 ∧ RelV x u ∧ J.yld i H x H' ∧ tn (i + 1) fp' s2.heap s2.gens ∧ ∀ b ∈ fp', FpOk X pins H' b) (fun _ _ => False) s1) (fun _ _ => False) s
  done : ∀ (X : Cx), X.prog = P → X.w = w → X.K = K → X.mg = mg → X.base = base → X.stack = stk → X.calm = true → Room k X.A → ∀ (i : Nat) (fp : List Addr) (pins : List (Addr × Obj)) (s : Shared) (σ : L2.St) (H : Hp),
    Inv X pins σ H s → (∀ b ∈ fp, FpOk X pins H b) → tn i fp s.heap s.gens → J.stop i H →
    wpAny (model P w) X.A (pyNext (.ref it)) (fun r s1 => r = none ∧ ∃ H', Same H H' ∧ Inv X pins σ H' s1) (fun _ _ => False) s
  self : ∀ (A : Around) (i : Nat) (fp : List Addr) (s : Shared) (Q : Value → Shared → Prop) (E : Value → Shared → Prop), tn i fp s.heap s.gens → Q (.ref it) s → wpAny (model P w) A (pyIter (.ref it)) Q E s
/-- it has come -/
def PIEG (X : Cx) (k : Nat) (pins : List (Addr × Obj)) (σ : L2.St) (tg : Expr) (R : It → Hp → Prop) (itv : Value) (s2 : Shared) : Prop :=
  ∃ (it : Addr) (fp : List Addr) (tn : Nat → List Addr → Heap → Array GenState → Prop) (J : It) (H' : Hp), itv = .ref it ∧ Inv X pins σ H' s2 ∧ TurnG X.prog X.w X.K X.mg X.base tg J it k X.stack tn ∧ tn 0 fp s2.heap s2.gens ∧
    (∀ b ∈ fp, FpOk X pins H' b) ∧ R J H'
structure PIG (X : Cx) (k : Nat) (tg iter : Expr) (wi : TI) : Prop where
  run : ∀ (pins : List (Addr × Obj)) (s : Shared) (σ : L2.St) (H : Hp) (R : It → Hp → Prop), Inv X pins σ H s → wi σ H R →
    wpAny (model X.prog X.w) X.A (eval iter X.env) (fun v s1 => wpAny (model X.prog X.w) X.A (pyIter v) (PIEG X k pins σ tg R) X.xe s1) X.xe s

section
variable {X : Cx}
/-- as tLc; at the end there may be more than was known -/
def tLcG (wi : TI) (g : TG) (tt : TT) (te : TE) (vs : List Nat) : TE := fun σ H Q => wi σ H fun J H1 => ∀ D, H1 D = none → ∃ W : Nat → Nat → Hp → Prop, (∃ m, W 0 m (upd H1 D (.lst []))) ∧ ∀ i m H, W i m H →
  (J.stop i H ∧ ∀ H', Same H H' → Q (.ref D) H') ∨ (J.go i H ∧ ∃ Nx : Hp → Prop, (∀ H', Nx H' → ∃ m', m' < m ∧ W (i + 1) m' H') ∧ ∀ x H', J.yld i H x H' → g x (wipe σ vs) H' fun σ2 H2 => wipe σ2 vs = wipe σ vs ∧ tt σ2 H2 fun b H3 =>
    if b = true then te σ2 H3 fun y H4 => ∃ acc, H4 D = some (.lst acc) ∧ acc.length < sizeLine ∧ Nx (upd H4 D (.lst (acc ++ [y]))) else Nx H3)
theorem pe_lcG {k : Nat} {elt tg iter : Expr} {ifs : List Expr} {scope : Scope} {own : List (Str × Nat)} {pos : Pos} {wi : TI} {g : TG} {tt : TT} {te : TE} (hc : X.calm = true) (hr : Room k X.A) (hN : X.N.Nodup) (hi : PIG X k tg iter wi) (ok : BlkOk X.N X.env.scope scope own)
    (hg : ∀ s H C cl fp, PG (X.blk s H scope (compEnvC scope cl C X.env) fp) tg g) (ht : ∀ s H C cl fp, PTs (X.blk s H scope (compEnvC scope cl C X.env) fp) ifs tt)
    (he : ∀ s H C cl fp, PE (X.blk s H scope (compEnvC scope cl C X.env) fp) elt te) (hs : ∀ x, foldedSetIterable iter X.env x = pure x := by intro _; rfl) :
    PE X (.ListComp elt [⟨tg, iter, ifs, 0⟩] scope pos) (tLcG wi g tt te (own.map (·.2))) := by
  refine ⟨fun pins s σ H Q I h => ?_⟩
  have closed : ∀ y ∈ scope.names, y.2 = .free → ∃ c, X.env.cells.lookup y.1 = some c := fun y hy e =>
    (ok.free y hy e).elim (fun z => I.ok.has _ (.inl z)) fun z => I.ok.has _ (.inr z)
  rw [eval_ListComp]
  refine wpAny_comprehension_free (use := none) rfl hs (closure_ok closed) ok.kind (fun y hy e => (ok.uniq y hy).trans (by rw [e])) (thn (hi.run pins s σ H _ I h) fun xv s1 hx => thn hx fun itv s2 h2 => ?_)
  obtain ⟨it, fp, tn, J, H2, rfl, I2, T, st2, f2, q⟩ := h2
  refine wpAny_newObj_type (newEnv_comp ?_) (by show 0 ≤ sizeLine; decide)
  -- the new list at D
  obtain ⟨D, hD⟩ : ∃ D, s2.heap.objs.size = D := ⟨_, rfl⟩
  obtain ⟨W, ⟨m0, w0⟩, turn⟩ := q D (I2.hok.fresh (Nat.le_of_eq hD))
  generalize e3 : ({ s2 with heap := s2.heap.push { cls := .type "list", data := .seq ([] : List Value).toArray } } : Shared) = s3
  have hp3 : s3.heap = s2.heap.push { cls := .type "list", data := .seq ([] : List Value).toArray } := by rw [← e3]
  have hg3 : s3.gens = s2.gens := by rw [← e3]
  have kp3 : ∀ b o, s2.heap.get? b = some o → s3.heap.get? b = some o := fun b o e => by rw [hp3]; exact Heap.get?_push_of_some _ e
  have I3 : Inv X pins σ (upd H2 D (.lst [])) s3 := by
    rw [← e3]
    exact I2.laid (t' := s2.toks) (fun b o e => Heap.get?_push_of_some _ e) (Nat.le_of_eq hD) ⟨Nat.zero_le _, [], 0, .nil, by rw [← hD]; exact Heap.get?_push_size _ rfl⟩
  have f3 : ∀ b ∈ fp, FpOk X pins (upd H2 D (.lst [])) b ∧ b < s3.heap.objs.size := fun b hb => by
    obtain ⟨o, e, _⟩ := T.obj _ _ _ _ st2 b hb
    have hlt := Heap.lt_size e
    exact ⟨⟨(upd_ne (by rw [← hD]; exact Nat.ne_of_lt hlt)).trans (f2 b hb).1, (f2 b hb).2⟩, Heap.lt_size (kp3 b o e)⟩
  have st3 : tn 0 fp s3.heap s3.gens := by rw [hg3]; exact T.keep _ _ _ _ _ st2 fun b _ o e => kp3 b o e
  have I4 := block_start I3 ok hN f3
  generalize eH : upd H2 D (.lst []) = H3 at I3 I4 w0 f3
  generalize eS : ({ s3 with heap := pushCells (s3.heap.push { cls := .type "dict", data := .dict #[] }) scope.names } : Shared) = s4 at I4
  have st4 : tn 0 fp s4.heap s4.gens := by
    rw [← eS]
    exact T.keep _ _ _ _ _ st3 fun b _ o e => pushCells_keeps _ _ _ _ (Heap.get?_push_of_some _ e)
  have pg := hg s3 H3 s3.heap.objs.size (cellsFrom (s3.heap.objs.size + 1) scope.names (cloFrom X.env.cells scope.names [])) fp
  have pt := ht s3 H3 s3.heap.objs.size (cellsFrom (s3.heap.objs.size + 1) scope.names (cloFrom X.env.cells scope.names [])) fp
  have pe := he s3 H3 s3.heap.objs.size (cellsFrom (s3.heap.objs.size + 1) scope.names (cloFrom X.env.cells scope.names [])) fp
  generalize eC : compEnvC scope (cellsFrom (s3.heap.objs.size + 1) scope.names (cloFrom X.env.cells scope.names [])) s3.heap.objs.size X.env = ce at I4 pg pt pe
  have cL : ce.locals = s3.heap.objs.size := by subst eC; rfl
  have loop : codeAny (model X.prog X.w) X.A (.compLoop (.ListComp elt [⟨tg, iter, ifs, 0⟩] scope pos) 0 (.ref it) (.ref D) ce) (compPost (model X.prog X.w) X.A X.xe none (EP X pins σ Q) (.ref D) s3.heap.objs.size) s4 := by
    have f4 : ∀ b ∈ fp, FpOk (X.blk s3 H3 scope ce fp) [] H3 b := fun b hb => ⟨(f3 b hb).1.1, (I4.ok.exf b hb).1, I4.ok.exfs b hb, .inl hb, fun x c e => (I4.ok.exf b hb).2 x c e, fun p hp => absurd (show p ∈ ([] : List (Addr × Obj)) ++ [] from hp) (by simp)⟩
    refine compLoop_any (fun n s' => ∃ i fp' H', Inv (X.blk s3 H3 scope ce fp) [] (wipe σ (own.map (·.2))) H' s' ∧ tn i fp' s'.heap s'.gens ∧ (∀ b ∈ fp', FpOk (X.blk s3 H3 scope ce fp) [] H' b) ∧ W i n H') ?_ m0 ⟨0, fp, H3, I4, st4, f4, w0⟩
    rintro n s5 ⟨i, fp5, H5, I5, st5, n5, w5⟩
    rcases turn i n H5 w5 with ⟨stop, qq⟩ | ⟨go, Nx, hNx, step⟩
    · refine thnF (T.done (X.blk s3 H3 scope ce fp) rfl rfl rfl rfl rfl rfl hc hr i fp5 [] s5 _ H5 I5 n5 st5 stop) fun r s6 ⟨er, H6, sm6, I6⟩ => ?_
      subst er
      have I7 : Inv X pins σ H6 s6 := I3.call' (ch := fp) I6.os I6.base I6.hok I6.bare fun b hb =>
        let z := (f3 b hb).1.2; ⟨z.2.2.1, z.1, z.2.2.2.1, z.2.2.2.2⟩
      have nC : H6 s3.heap.objs.size = none := by
        rw [← cL]; exact I6.free
      obtain ⟨m, hn, _⟩ := I6.loc
      have hn : s6.heap.Ns s3.heap.objs.size m := by rw [← cL]; exact hn
      refine ⟨m, hn, fun h'' sb => ?_⟩
      obtain ⟨z0, z1, _, z3, z4, z5⟩ := I3.fpOk (Nat.le_refl _) nC
      exact ⟨.ref D, H6, I7.turned (t' := s6.toks) (fun b o hb e => (sb.2 b hb).trans e) z0 z1 z3 z4 z5, rfl, qq _ sm6⟩
    · refine thnF (T.item (X.blk s3 H3 scope ce fp) rfl rfl rfl rfl rfl rfl hc hr i fp5 [] s5 _ H5 I5 n5 st5 go) fun r s6 ⟨u, er, h6⟩ => ?_
      subst er
      refine thnF h6 fun _ s7 ⟨x, H7, fp7, I7, r7, y7, st7, n7⟩ => ?_
      obtain ⟨gg, z, hz, sz, kz⟩ := T.asl _ _ _ _ st7
      have J7 := I7.pinned n7 (T.obj _ _ _ _ st7)
      refine thnZ hz sz (pg.run _ _ _ H7 x u _ (dull J7) r7 (step x H7 y7)) fun _ s8 D8 b8 hz8 ⟨σ8, H8, I8, hw8, q8⟩ => ?_
      replace I8 := regen I8 b8
      refine thnZ hz8 sz (pt.run _ _ σ8 H8 _ (dull I8) q8) fun b s9 D9 b9 hz9 ⟨H9, I9, q9⟩ => ?_
      replace I9 := regen I9 b9
      have fin : ∀ {s' : Shared} {H' : Hp}, s'.gens[gg]? = some z → Inv (X.blk s3 H3 scope ce fp) ([] ++ pinsAt fp7 s7.heap) σ8 H' s' → Nx H' →
          ∃ m, m < n ∧ ∃ i fp' H', Inv (X.blk s3 H3 scope ce fp) [] (wipe σ (own.map (·.2))) H' s' ∧ tn i fp' s'.heap s'.gens ∧ (∀ b ∈ fp', FpOk (X.blk s3 H3 scope ce fp) [] H' b) ∧ W i m H' := fun {s' H'} hz' I' nx => by
        obtain ⟨m', hm, w'⟩ := hNx H' nx
        have pin' : ∀ b ∈ fp7, ∀ o, s7.heap.get? b = some o → s'.heap.get? b = some o ∧ H' b = none := fun b hb o e =>
          let y := I'.pin (b, o) (List.mem_append_right _ (List.mem_append_right _ (mem_pinsAt hb e)))
          ⟨y.1, y.2.1⟩
        have hl : (wipe σ (own.map (·.2))).length = σ8.length := by rw [← hw8, wipe_length]
        refine ⟨m', hm, i + 1, fp7, H', (I'.unpinned (pins := [])).weak hl (fun j v e => ?_), ?_, fun b hb => ?_, w'⟩
        · rw [← hw8] at e
          exact (wipe_some e).1
        · exact T.keep _ _ _ _ _ (kz _ hz') fun b hb o e => (pin' b hb o e).1
        · obtain ⟨o, e, _⟩ := T.obj _ _ _ _ st7 b hb
          exact ⟨(pin' b hb o e).2, (n7 b hb).2⟩
      cases b with
      | false =>
        simp only [Bool.false_eq_true, if_false] at q9 ⊢
        exact fin hz9 I9 q9
      | true =>
        simp only [if_true] at q9 ⊢
        refine thnZ hz9 sz (pe.run _ _ σ8 H9 _ (dull I9) q9) fun y s10 D10 b10 hz10 ⟨yv, H10, I10, r10, acc, hD10, hz10', nx⟩ => ?_
        replace I10 := regen I10 b10
        exact thnZ hz10 sz (app_ok (X := X.blk s3 H3 scope ce fp) (dull I10) hD10 hz10' r10 fun s11 I11 => I11) fun _ s11 D11 b11 hz11 I11 => fin hz11 (regen I11 b11) nx
  have hh := codeAny_compStart_list loop (T.self X.A 0 _ _ _ _ st4 loop)
  rw [hD]
  rw [← eC] at hh
  exact hh
end
end Tw
/-! Gsp: one waking of a generator: from where it stands to its next yield, or to its end. -/
namespace Tw
open PySem PyProof.Rows L2 GenW

/-- the code's run ends, and T holds of the end -/
def Step (M : Model) (A : Around) (T : End → Shared → Prop) (c : Code) (t : Sem PySem.Fin) (fs : List Frame) (s : Shared) : Prop :=
  ∀ Γ p, Γ.code = c → Γ.Woken A → ∃ e s', Runs M Γ p t fs s e s' ∧ T e s'
section
variable {M : Model} {A : Around} {T : End → Shared → Prop} {c : Code} {fs : List Frame} {s : Shared} {env : Env}
abbrev Nx : Value → Shared → Prop := fun _ _ => False
theorem stp_wrap {α : Type} {m : Sem α} {K : α → Sem PySem.Fin} {J : Value → Sem PySem.Fin} {gd : Bool → Bool} {lv : List Value → List Value} (h : wpAny M (A.over c fs) m (fun a s' => Step M A T c (K a) fs s') Nx s) : Step M A T c (m.wrap K J gd lv) fs s := by
  rintro Γ p rfl hΓ
  exact runs_wrap_of_wp K J gd lv m (h (Γ.over fs) p (hΓ.over fs)) (fun a p' s' z => z Γ p' rfl hΓ) fun _ _ _ z => z.elim
theorem stp_bindw {α β : Type} {m : Sem α} {f : α → Sem β} {K : β → Sem PySem.Fin} {J : Value → Sem PySem.Fin} {gd : Bool → Bool} {lv : List Value → List Value}
    (h : wpAny M (A.over c fs) m (fun a s' => Step M A T c ((f a).wrap K J gd lv) fs s') Nx s) : Step M A T c ((m >>= f).wrap K J gd lv) fs s := by
  rw [Sem.bind_eq_wrap', Sem.wrap_wrap]
  exact stp_wrap h
theorem stp_bind {α : Type} {m : Sem α} {K : α → Sem PySem.Fin} (h : wpAny M (A.over c fs) m (fun a s' => Step M A T c (K a) fs s') Nx s) : Step M A T c (m >>= K) fs s := by
  rw [Sem.bind_eq_wrap']
  exact stp_wrap h
theorem stp_at {p' : Pos} {k : Unit → Sem PySem.Fin} (h : Step M A T c (k ()) fs s) : Step M A T c (.at p' k) fs s :=
  stp_wrap (m := standAt p') (K := k) (J := .raise) (gd := id) (lv := id) (wpAny_standAt h)
theorem stp_point {l : List Value} {k : Unit → Sem PySem.Fin} (h : Step M A T c (k ()) fs s) : Step M A T c (.point l k) fs s :=
  stp_wrap (m := point) (K := k) (J := .raise) (gd := id) (lv := fun _ => l) (wpAny_point h)
theorem stp_call {c' : Code} {hd : Option Value} {g : Bool} {l : List Value} {k : Result → Sem PySem.Fin} (h : ∀ p, Step M A T c' (M.den c') (.ret k hd g l c p [] :: fs) s) : Step M A T c (.call c' hd g l k) fs s := by
  rintro Γ p rfl hΓ
  obtain ⟨e, s', hr, he⟩ := h p (Γ.goto c') p rfl (hΓ.goto c')
  exact ⟨e, s', runs_call_seg hr, he⟩
theorem stp_leaf {k : Result → Sem PySem.Fin} {hd : Option Value} {g : Bool} {l kp : List Value} {c₁ : Code} {p₁ : Pos} (r : Result) (h : Step M A T c₁ (k r) fs s) : Step M A T c (leafOf r) (.ret k hd g l c₁ p₁ kp :: fs) s := by
  rintro Γ p rfl hΓ
  obtain ⟨e, s', hr, he⟩ := h (Γ.goto c₁) p₁ rfl (hΓ.goto c₁)
  exact ⟨e, s', Runs.pop r hr, he⟩
theorem stp_again {c' : Code} (hq : c'.quiet = true) (h : Step M A T c' (M.den c') fs s) : Step M A T c (.pure (.again c')) fs s := by
  rintro Γ p rfl hΓ
  obtain ⟨e, s', hr, he⟩ := h (Γ.goto c') p rfl (hΓ.goto c')
  exact ⟨e, s', Runs.head (c₁ := c') (fun _ _ x => .again hq x) hr, he⟩
theorem stp_end (r : Result) (h : T (.ret r) s) : Step M A T c (leafOf r) [] s := by
  rintro Γ p rfl _
  exact ⟨.ret r, s, Runs.leaf r, h⟩
theorem stp_yield {v : Value} {gb : Bool} {l : List Value} {k : Resume → Sem PySem.Fin} (hfs : splitAtGen fs = none) (hg : gb = false) (h : ∀ p, T (.susp v false l k c p fs) s) : Step M A T c (.yield v gb l k) fs s := by
  subst hg
  rintro Γ p rfl _
  exact ⟨_, s, Runs.yield' fs hfs, h p⟩
section
variable {K : Flow → Sem PySem.Fin} {J : Value → Sem PySem.Fin} {gd : Bool → Bool} {lv : List Value → List Value}
theorem stp_nil (h : Step M A T c (K .next) fs s) : Step M A T c ((execs [] env).wrap K J gd lv) fs s := h
theorem stp_cons {st : Stmt} {rest : List Stmt} (h : Step M A T c ((exec st env).wrap (fun f => match f with | .next => (execs rest env).wrap K J gd lv | f => K f) J gd lv) fs s) :
    Step M A T c ((execs (st :: rest) env).wrap K J gd lv) fs s := by rw [execs_cons_wrap]; exact h
/-- yield e, as a statement -/
theorem stp_Yield {e : Expr} {yp pos : Pos} (hfs : splitAtGen fs = none) (hgd : gd false = false) (hco : env.scope.isCoroutine = false) (hi : interactive env = false)
    (h : wpAny M (A.over c fs) (eval e env) (fun v s' => ∀ l k p, (∀ A' T' s'', Step M A' T' c (K .next) fs s'' → Step M A' T' c (k (.send .none)) fs s'') → T (.susp v false l k c p fs) s') Nx s) :
    Step M A T c ((exec (.Expr (.Yield (some e) yp) pos) env).wrap K J gd lv) fs s := by
  rw [exec_Expr env _ pos hi rfl]
  show Step M A T c (.at pos fun _ => ((eval e env >>= fun v => (standAt yp >>= fun _ => yieldOut env v)) >>= fun x => dropValue (.Yield (some e) yp) pos x).wrap K J gd lv) fs s
  have hy : ∀ v, yieldOut env v = yieldValue v := fun v => by simp only [yieldOut, hco, Bool.false_eq_true, if_false]
  simp only [hy]
  refine stp_at ?_
  rw [Sem.bind_eq_wrap', Sem.bind_eq_wrap', Sem.wrap_wrap, Sem.wrap_wrap]
  refine stp_wrap (wpAny_mono h (fun v s' h' => ?_) fun _ _ x => x)
  refine stp_at (stp_yield hfs hgd fun p => h' _ _ p fun A' T' s'' z => z)
/-- what a loop's code comes back to -/
abbrev fromLoop (env : Env) (K : Flow → Sem PySem.Fin) (J : Value → Sem PySem.Fin) (gd : Bool → Bool) (lv : List Value → List Value) : Result → Sem PySem.Fin := fun r =>
  ((match r with | .ok f => (.pure f : Sem Flow) | .error e => .raise e).onRaise fun (x : Value) => do
    if (← field x 1) == Value.none then unsupported "frame.own-activation:exception-without-traceback"
    setFlight x env.frame).wrap K J gd lv
theorem stp_For {tgt iter : Expr} {body : List Stmt} {pos : Pos} (hs : ∀ x, foldedSetIterable iter env x = pure x)
    (h : wpAny M (A.over c fs) (eval iter env) (fun x s1 => wpAny M (A.over c fs) (pyIter x) (fun it s2 => ∀ p, Step M A T (.forLoop tgt it body [] env) (M.den (.forLoop tgt it body [] env))
      (.ret (fromLoop env K J gd lv) none (gd false) (lv []) c p [] :: fs) s2) Nx s1) Nx s) :
    Step M A T c ((exec (.For tgt iter body [] pos) env).wrap K J gd lv) fs s := by
  rw [exec_For]
  refine stp_bindw (wpAny_standAt (stp_bindw (wpAny_mono h (fun x s1 h1 => ?_) fun _ _ z => z)))
  refine stp_bindw (wpAny_of_eq (hs x) (stp_bindw (wpAny_standAt (stp_bindw (wpAny_holding (wpAny_mono h1 (fun it s2 h2 => ?_) fun _ _ z => z))))))
  exact stp_call h2
end
end
section
variable {prog : Program} {w : World} {A : Around} {T : End → Shared → Prop} {fs : List Frame} {s : Shared} {env : Env}
theorem stp_forLoop {tgt : Expr} {it : Value} {body : List Stmt}
    (h : wpAny (model prog w) (A.over (.forLoop tgt it body [] env) fs) (pyNext it) (fun r s1 => match r with
      | none => Step (model prog w) A T (.block [] env) (leafOf (.ok .next)) fs s1
      | some v => wpAny (model prog w) (A.over (.forLoop tgt it body [] env) fs) (letOwnedTupleGo tgt it v) (fun _ s2 => wpAny (model prog w) (A.over (.forLoop tgt it body [] env) fs) (assign tgt env v) (fun _ s3 =>
        ∀ J, Step (model prog w) A T (.forLoop tgt it body [] env) ((execs body env).wrap (fun f => match f with
          | .next | .cont => .pure (.again (.forLoop tgt it body [] env))
          | .brk => leafOf (.ok .next)
          | .ret v => leafOf (.ok (.ret v))) J id id) fs s3) Nx s2) Nx s1) Nx s) :
    Step (model prog w) A T (.forLoop tgt it body [] env) ((model prog w).den (.forLoop tgt it body [] env)) fs s := by
  show Step _ A T _ ((forTurn tgt it body [] env).onRaise (fun x => do noteFrame x env; theTreesLotGoes x)) fs s
  rw [Sem.onRaise_eq_wrap]
  unfold forTurn
  refine stp_bindw (wpAny_standAt (stp_bindw (wpAny_onRaise (wpAny_mono h (fun r s1 h1 => ?_) fun _ _ z => z.elim))))
  cases r with
  | none => exact stp_again rfl h1
  | some v =>
    refine stp_bindw (wpAny_mono h1 (fun _ s2 h2 => stp_bindw (wpAny_mono h2 (fun _ s3 h3 => ?_) fun _ _ z => z)) fun _ _ z => z)
    rw [Sem.bind_eq_wrap', Sem.wrap_wrap]
    refine Eq.mp (congrArg (fun t => Step (model prog w) A T _ t fs s3) (Sem.wrap_congr (execs body env) _ _ (fun f => ?_) fun e => rfl)) (h3 _)
    cases f <;> rfl
/-- a generator def's body begins -/
theorem stp_func {body : List Stmt} (h : ∀ J, Step (model prog w) A T (.func body env) ((execs body env).wrap (fun f => leafOf (.ok (.ret (match f with | .ret v => v | _ => .none)))) J id id) fs s) :
    Step (model prog w) A T (.func body env) ((model prog w).den (.func body env)) fs s := by
  show Step _ A T _ (.point [] fun _ => ((execs body env).onRaise (leaving env)) >>= _) fs s
  refine stp_point ?_
  rw [Sem.onRaise_eq_wrap, Sem.bind_eq_wrap', Sem.wrap_wrap]
  refine Eq.mp (congrArg (fun t => Step (model prog w) A T _ t fs s) (Sem.wrap_congr (execs body env) _ _ (fun f => ?_) fun e => rfl)) (h _)
  cases f <;> rfl
/-- where a generator stands -/
def StepOf (M : Model) (A : Around) (T : End → Shared → Prop) (gs : GenState) (s : Shared) : Prop :=
  match gs with
  | .fresh c => Step M A T c (M.den c) [] s
  | .suspended k _ c _ fs _ => Step M A T c (k (.send .none)) fs s
  | _ => False
/-- it is woken -/
theorem wpAny_resumeS {M : Model} {g : Nat} {gs : GenState} {l : List Value} {α : Type} {k : GenResult → Sem α} {E : Value → Shared → Prop} {Q : α → Shared → Prop} (hg : s.gens[g]? = some gs) (hgo : StepOf M A T gs (s.setGen g .running))
    (hT : ∀ e s₁, T e s₁ → e.quiet = true ∧ wpAny M A (k e.result) Q E (s₁.setGen g e.genState)) : wpAny M A (.resume g (.send .none) l k) Q E s := by
  intro Γ p hΓ
  rw [Sem.wp_resume]
  cases gs with
  | fresh c =>
    obtain ⟨e₁, s₁, hr, he⟩ := hgo (Γ.wake c p) p rfl (hΓ.wake c p)
    obtain ⟨hq, hk⟩ := hT e₁ s₁ he
    refine ⟨_, _, ?_, hk Γ p hΓ⟩
    unfold Wakes
    rw [hg]
    exact ⟨e₁, s₁, hr, hq, rfl, rfl⟩
  | suspended k₀ l₀ c₀ p₀ fs₀ cl =>
    obtain ⟨e₁, s₁, hr, he⟩ := hgo (Γ.wake c₀ p) p₀ rfl (hΓ.wake c₀ p)
    obtain ⟨hq, hk⟩ := hT e₁ s₁ he
    refine ⟨_, _, ?_, hk Γ p hΓ⟩
    unfold Wakes
    rw [hg]
    exact ⟨e₁, s₁, hr, hq, rfl, rfl⟩
  | running => exact hgo.elim
  | finished => exact hgo.elim
/-- what a waking may end with: a yield, or the end -/
def Told (Yv : Value → GenState → Shared → Prop) (D : Shared → Prop) (e : End) (s : Shared) : Prop :=
  match e with
  | .susp v g l k c p fs => (End.susp v g l k c p fs).quiet = true ∧ Yv v (End.susp v g l k c p fs).genState s
  | .ret (.ok (.ret .none)) => D s
  | _ => False
theorem pyNextS {E : Value → Shared → Prop} {Q : Option Value → Shared → Prop} {a : Addr} {g : Nat} {gs : GenState} {Yv : Value → GenState → Shared → Prop} {D : Shared → Prop} (hh : A.handled = none) (hl : s.heap.NoLimit) (hroom : A.depth < recursionLimit) (hg : s.heap.IsGen a g)
    (hgs : s.gens[g]? = some gs) (hgo : StepOf (model prog w) A.in1 (Told Yv D) gs (s.setGen g .running))
    (hY : ∀ v gs' s₁, Yv v gs' s₁ → Q (some v) (s₁.setGen g gs'))
    (hD : ∀ s₁, D s₁ → ∀ h', (∀ b o, s₁.heap.get? b = some o → h'.get? b = some o) → Q none { s₁.setGen g .finished with heap := h' }) : wpAny (model prog w) A (pyNext (.ref a)) Q E s := by
  unfold pyNext
  refine wpAny_bind (wpAny_attempt (wpAny_callSpecial?_slot (name := Str.ofString "__next__") hg.typeIs slot_gen_next (wpAny_call_entry slot_gen_next hg.typeIs entry_gen_next ?_ (args_gen_next _))))
  show wpAny _ A.in1 (Builtin.Generator.genWake (.ref a) (.send .none)) _ _ s
  unfold Builtin.Generator.genWake
  refine wpAny_bind (wpAny_holding (wpAny_genNumber hg (wpAny_bind (wpAny_genState hgs ?_))))
  cases gs with
  | running => exact hgo.elim
  | finished => exact hgo.elim
  | _ =>
    refine wpAny_bind (wpAny_roomToWake hl hroom ?_)
    show wpAny _ A.in1 (.resume g (.send .none) [] _) _ _ s
    refine wpAny_resumeS hgs hgo fun e s₁ he => ?_
    cases e with
    | susp v gg l kk c p fs =>
      obtain ⟨h1, h2⟩ := he
      exact ⟨h1, wpAny_pure ⟨v, rfl, wpAny_pure (hY v _ s₁ h2)⟩⟩
    | ret r =>
      cases r with
      | error x => exact he.elim
      | ok f =>
        cases f with
        | ret v =>
          cases v with
          | none =>
            refine ⟨rfl, ?_⟩
            show wpAny _ A.in1 (newExc (.type "StopIteration") [] >>= _) _ _ _
            simp only [newExc, newTuple]
            refine wpAny_bind (wpAny_bind (wpAny_newObj_type ?_ (by size_fits)))
            refine wpAny_bind (m := firstArgMember _ _) (wpAny_of_eq (a := Value.none) (by first | rfl | (simp only [firstArgMember]; rfl)) ?_)
            refine wpAny_newObj_type ?_ (by size_fits)
            simp only [raiseNew]
            refine wpAny_bind (wpAny_bind (wpAny_handled ?_))
            first | rw [show A.in1.handled = none from hh] | rw [hh]
            refine wpAny_throw ?_
            refine wpAny_bind (wpAny_isInstance (T := "StopIteration") (b := true) ⟨_, Heap.get?_push_size _ rfl, rfl⟩ isSubtype_stop ?_)
            exact wpAny_pure (hD s₁ he _ fun b o hb => Heap.get?_push_of_some _ (Heap.get?_push_of_some _ hb))
          | _ => exact he.elim
        | _ => exact he.elim
end
end Tw
/-! Ggh: the hand layer's context for one waking of a generator: what stood when it was woken is older than its frame, or known by its very objects. -/
namespace Tw
open PySem PyProof.Rows L2 GenW
abbrev Sg := L2.St

theorem there {P : Program} {w : World} {H : Hp} {h : Heap} {a : Addr} {o : HO} (x : ObjOk P w H h a o) : ∃ u, h.get? a = some u := by
  cases o with
  | lst xs => obtain ⟨_, _, _, _, e⟩ := x; exact ⟨_, e⟩
  | tup xs => obtain ⟨_, _, _, ⟨o, e, _⟩⟩ := x; exact ⟨_, e⟩
  | dK kvs => obtain ⟨_, _, _, _, o, _, _, e, _⟩ := x; exact ⟨_, e⟩
  | dT kvs => obtain ⟨_, _, _, _, o, _, _, e, _⟩ := x; exact ⟨_, e⟩
  | set S n => obtain ⟨o, _, _, _, e, _⟩ := x; exact ⟨_, e⟩
  | ins C dx fs => obtain ⟨_, _, _, e, _⟩ := x; exact ⟨_, e⟩
  | own y => exact x
  | xd fs => obtain ⟨_, ⟨_, _, _, e, _⟩, _⟩ := x; exact ⟨_, e⟩
  | rng lo hi => obtain ⟨_, _, _, e⟩ := x; exact ⟨_, e⟩
  | frz ob u => exact ⟨_, x.1⟩
  | tbl ps => exact ⟨_, x⟩
  | met f y => exact ⟨_, x⟩
  | ext φ => exact x.2.1
/-- what is told by its own object alone, and is no part of another thing -/
def plain : HO → Prop
  | .lst _ => True
  | .dK _ => True
  | .frz _ (.dK _) => True
  | _ => False
theorem plain_stay {P : Program} {w : World} {H H' : Hp} {h h' : Heap} {a : Addr} {u : HO} (x : ObjOk P w H h a u) (p : plain u) (k : ∀ o, h.get? a = some o → h'.get? a = some o) : ObjOk P w H' h' a u := by
  cases u with
  | lst xs => obtain ⟨z, its, n, r, e⟩ := x; exact ⟨z, its, n, r, k _ e⟩
  | dK kvs => obtain ⟨z, y, vs, r, ob, es, ep, e, c⟩ := x; exact ⟨z, y, vs, r, ob, es, ep, k _ e, c⟩
  | frz o v =>
    cases v with
    | dK kvs => obtain ⟨e1, z, y, vs, r, ob, es, ep, e, c⟩ := x; exact ⟨k _ e1, z, y, vs, r, ob, es, ep, k _ e, c⟩
    | _ => exact p.elim
  | _ => exact p.elim

/-- the heap below L -/
def cut (s : Shared) (L : Nat) : Shared := { s with heap := { s.heap with objs := s.heap.objs.extract 0 L } }
theorem cut_get {s : Shared} {L b : Nat} {o : Obj} : (cut s L).heap.get? b = some o ↔ b < L ∧ s.heap.get? b = some o := by
  show (match (s.heap.objs.extract 0 L)[b]? with | some ⟨_, _, .freed, _⟩ => none | o => o) = some o ↔ b < L ∧ (match s.heap.objs[b]? with | some ⟨_, _, .freed, _⟩ => none | o => o) = some o
  rw [Array.getElem?_extract]
  by_cases h : b < L
  · simp only [Nat.zero_add, Nat.sub_zero]
    by_cases h2 : b < s.heap.objs.size
    · rw [if_pos (by omega)]
      simp [h]
    · rw [if_neg (by omega), Array.getElem?_eq_none (by omega)]
      simp
  · rw [if_neg (by omega)]
    simp [h]
theorem cut_size {s : Shared} {L : Nat} (h : L ≤ s.heap.objs.size) : (cut s L).heap.objs.size = L := by
  show (s.heap.objs.extract 0 L).size = L
  rw [Array.size_extract]; omega

/-- what the generator knows of the heap when it is woken: fp are its own objects, pd what it knows of them; all else that is younger than its frame is known by its very object -/
def mix (s : Shared) (H : Hp) (L : Nat) (fp : List Addr) (pd : Hp) : Hp := fun b =>
  if b ∈ fp then pd b else match H b with
    | some u => some u
    | none => if L ≤ b then (s.heap.get? b).map fun o => HO.frz o (.own 0) else none
section
variable {s : Shared} {H pd : Hp} {L b : Nat} {fp : List Addr}
theorem mix_own (h : b ∈ fp) : mix s H L fp pd b = pd b := by unfold mix; rw [if_pos h]
theorem mix_old {u : HO} (h : b ∉ fp) (e : H b = some u) : mix s H L fp pd b = some u := by unfold mix; rw [if_neg h, e]
theorem mix_frz {o : Obj} (h : b ∉ fp) (e : H b = none) (hl : L ≤ b) (eo : s.heap.get? b = some o) : mix s H L fp pd b = some (.frz o (.own 0)) := by unfold mix; rw [if_neg h, e, eo]; simp [hl]
theorem mix_low (h : b ∉ fp) (hl : b < L) : mix s H L fp pd b = H b := by
  unfold mix
  rw [if_neg h]
  cases e : H b with
  | none => rw [if_neg (by omega)]
  | some u => rfl
theorem mix_none (h : b ∉ fp) (e : mix s H L fp pd b = none) : H b = none := by
  cases q : H b with
  | none => rfl
  | some u => rw [mix_old h q] at e; cases e
end

/-- a generator's frame: no cells -/
structure GEnv (env : Env) (N : List Str) : Prop where
  kind : env.scope.kind = .function
  glob : env.globals = mainGlobals
  blt : env.builtins = builtinsNs
  cells : env.cells = []
  frame : env.frame = some env.locals
  nocell : ∀ x, env.scope.names.lookup x ≠ some .cell ∧ env.scope.names.lookup x ≠ some .free
/-- the context of one waking -/
def gX (P : Program) (w : World) (K : PySem.W.Frag) (mg : Str → Option Value) (base : Heap) (N : List Str) (env : Env) (stk : List Env) (A : Around) (s : Shared) (M : Hp) : Cx where
  prog := P
  w := w
  K := K
  mg := mg
  base := base
  A := A.deeper env
  N := N
  s_0 := cut s env.locals
  H_0 := M
  env := env
  outer := stk
  stack := env :: stk
  ex := []
  fn := fun x => env.scope.names.lookup x == some .cell
  calm := true
  pn := []
  xe := fun _ _ => False
/-- the names' values in the frame -/
def LocOk (N : List Str) (env : Env) (σ : Sg) (h : Heap) : Prop :=
  σ.length = N.length ∧ ∃ m, h.Ns env.locals m ∧ ∀ (i : Nat) (x : Str) (v : V), N[i]? = some x → σ[i]? = some (some v) → Vis env.scope x → ∃ u, RelV v u ∧ Look env h m x u
/-- a waking: s, H: where the consumer stands; fp: what the generator has of its own, as it stood at h -/
structure Wk (P : Program) (w : World) (K : PySem.W.Frag) (mg : Str → Option Value) (base : Heap) (k : Nat) (stk : List Env) (A : Around) (s : Shared) (H : Hp) (fp : List Addr) (h : Heap) : Prop where
  e0 : Env0 P w K mg base A stk s H
  room : Room k A
  no : ∀ b ∈ fp, H b = none
  keep : ∀ b ∈ fp, ∀ o, h.get? b = some o → s.heap.get? b = some o
/-- how it sleeps: the frame's place, what it knows of its own objects -/
structure Sleep (P : Program) (w : World) (base : Heap) (N : List Str) (env : Env) (stk : List Env) (σ : Sg) (fp : List Addr) (pd : Hp) (h : Heap) : Prop where
  genv : GEnv env N
  old : base.objs.size ≤ env.locals
  frs : ∀ b ∈ frs stk, b < env.locals
  here : env.locals ∈ fp
  young : ∀ b ∈ fp, env.locals ≤ b
  loc : LocOk N env σ h
  frame : pd env.locals = none
  dom : ∀ b u, pd b = some u → b ∈ fp ∧ plain u ∧ ObjOk P w pd h b u
section
variable {P : Program} {w : World} {K : PySem.W.Frag} {mg : Str → Option Value} {base : Heap} {k : Nat} {stk : List Env} {A : Around} {s : Shared} {H pd : Hp} {fp : List Addr} {h : Heap} {N : List Str} {env : Env} {σ : Sg}
/-- it wakes -/
theorem wake (W : Wk P w K mg base k stk A s H fp h) (Z : Sleep P w base N env stk σ fp pd h) : Inv (gX P w K mg base N env stk A s (mix s H env.locals fp pd)) [] σ (mix s H env.locals fp pd) s := by
  obtain ⟨hl, m, hn, hx⟩ := Z.loc
  obtain ⟨oL, es, ep, hoL, hrest⟩ := id hn
  have hoL' := W.keep _ Z.here _ hoL
  have hL : env.locals ≤ s.heap.objs.size := Nat.le_of_lt (Heap.lt_size hoL')
  have notin : ∀ b, b < env.locals → b ∉ fp := fun b hb hm => absurd (Z.young b hm) (Nat.not_le_of_lt hb)
  have nocell : ∀ x c, env.cells.lookup x = some c → False := fun x c e => by rw [Z.genv.cells] at e; cases e
  have kinds : ∀ x, env.kindOf x ≠ some .cell ∧ env.kindOf x ≠ some .free := fun x => Z.genv.nocell x
  have fr0 : ∀ b ∈ frs stk, mix s H env.locals fp pd b = none := fun b hb => by
    rw [mix_low (notin b (Z.frs b hb)) (Z.frs b hb)]
    exact W.e0.frf b hb
  have funs : ∀ l : List Env, (∀ b ∈ frs l, b < env.locals) → s.heap.FunFrames base l → (cut s env.locals).heap.FunFrames base l := by
    intro l
    induction l with
    | nil => intro _ _; trivial
    | cons e rest ih =>
      rintro hb ⟨h1, ⟨L, o, h2, h3, h4, h5⟩, h6⟩
      refine ⟨h1, ⟨L, o, h2, h3, cut_get.mpr ⟨hb L ?_, h4⟩, h5⟩, ih (fun b hm => hb b ?_) h6⟩
      · unfold L2.frs; rw [List.filterMap_cons, h2]; exact List.mem_cons_self
      · unfold L2.frs at hm ⊢; rw [List.filterMap_cons, h2]; exact List.mem_cons_of_mem _ hm
  have hok : HOk P w (mix s H env.locals fp pd) s.heap := by
    intro b u e
    by_cases hb : b ∈ fp
    · rw [mix_own hb] at e
      obtain ⟨_, hp, ho⟩ := Z.dom b u e
      exact plain_stay ho hp fun o q => W.keep b hb o q
    · cases q : H b with
      | some v =>
        rw [mix_old hb q] at e
        cases e
        have nf : ∀ {d u}, H d = some u → d ∉ fp := fun {d u} z hm => by rw [W.no d hm] at z; cases z
        exact (W.e0.hok b _ q).stay (fun _ _ _ z => z) (fun d z => mix_old (nf z) z) fun d xs z => mix_old (nf z) z
      | none =>
        unfold mix at e
        rw [if_neg hb, q] at e
        simp only at e
        split at e
        · cases qo : s.heap.get? b with
          | none => rw [qo] at e; cases e
          | some o =>
            rw [qo] at e
            cases e
            exact ⟨qo, o, qo⟩
        · cases e
  refine ⟨⟨W.e0.mod, Z.genv.kind, Z.genv.glob, Z.genv.blt, Nat.le_of_eq (cut_size hL), fun x y c e => (nocell x c e).elim, fun x e => e.elim (fun z => absurd z (kinds x).1) fun z => absurd z (kinds x).2, fun x c _ e => (nocell x c e).elim,
    fun _ => W.room.hd, Around.frames_deeper W.e0.frames, .inr ⟨rfl, Z.genv.frame⟩, fun b z => absurd (show b ∈ ([] : List Addr) from z) (by simp), fun b o e => ?_, ?_, fun b o _ z => absurd (show b ∈ ([] : List Addr) from z) (by simp), fun b z => absurd (show b ∈ ([] : List Addr) from z) (by simp), funs stk Z.frs W.e0.funs, fr0⟩,
    rfl, W.e0.bare, Un.kept fun b o e => (cut_get.mp e).2, ⟨m, ⟨oL, es, ep, hoL', hrest⟩, fun i x v e1 e2 e3 => ?_⟩, fun x c e => (nocell x c e).elim, ?_, fun x c e => (nocell x c e).elim, fun p hp => absurd (show p ∈ ([] : List (Addr × Obj)) ++ [] from hp) (by simp), hok, hl⟩
  · have hb : b < env.locals := Nat.lt_of_lt_of_le (Heap.lt_size e) Z.old
    obtain ⟨z1, z2⟩ := W.e0.bs b o e
    exact ⟨cut_get.mpr ⟨hb, z1⟩, (mix_low (notin b hb) hb).trans z2⟩
  · exact Nat.le_trans Z.old (Nat.le_of_eq (cut_size hL).symm)
  · obtain ⟨u, r, l⟩ := hx i x v e1 e2 e3
    refine ⟨u, r, ?_⟩
    rcases l with l | ⟨l, _⟩
    · exact .inl l
    · rcases l with z | z
      · exact absurd z (kinds x).1
      · exact absurd z (kinds x).2
  · exact (mix_own Z.here).trans Z.frame
/-- what a waking gives the consumer: the heap goes from H to H' as by a call, but for the generator's own objects, of which there may be more -/
structure Prom (P : Program) (w : World) (stk : List Env) (s : Shared) (H : Hp) (fp : List Addr) (s' : Shared) (H' : Hp) : Prop where
  os : s'.os = s.os
  bare : AllBare s'.gens
  un : Un (frs stk) fp H H' s.heap s'.heap
  hok : HOk P w H' s'.heap
  same : Same H H'
/-- its own objects then -/
def Mine (s : Shared) (fp : List Addr) (s' : Shared) (H' : Hp) (fp' : List Addr) : Prop := ∀ b ∈ fp', H' b = none ∧ (b ∈ fp ∨ s.heap.objs.size ≤ b) ∧ ∃ o, s'.heap.get? b = some o ∧ ∀ v, o.data ≠ .cell v
theorem plain_obj {P : Program} {w : World} {H : Hp} {h : Heap} {a : Addr} {u : HO} (x : ObjOk P w H h a u) (p : plain u) : ∃ o, h.get? a = some o ∧ ∀ v, o.data ≠ .cell v := by
  have dk : ∀ kvs, ObjOk P w H h a (.dK kvs) → ∃ o, h.get? a = some o ∧ ∀ v, o.data ≠ .cell v := fun kvs x => by
    obtain ⟨_, _, _, _, o, es, ep, e, _, hd, _⟩ := x
    exact ⟨o, e, fun v z => by rw [hd] at z; cases z⟩
  cases u with
  | lst xs => obtain ⟨_, _, _, _, e⟩ := x; exact ⟨_, e, fun v z => by cases z⟩
  | dK kvs => exact dk kvs x
  | frz o v =>
    cases v with
    | dK kvs => exact dk kvs x.2
    | _ => exact p.elim
  | _ => exact p.elim
open Classical in
/-- what the consumer knows then -/
noncomputable def out (s : Shared) (H : Hp) (L : Nat) (fp' : List Addr) (G : Hp) : Hp := fun b => if b ∈ fp' ∨ (H b = none ∧ L ≤ b ∧ ∃ o, s.heap.get? b = some o) then none else G b
section
variable {pins : List (Addr × Obj)} {G : Hp} {s' : Shared} {fp' : List Addr}
/-- it goes to sleep, or ends -/
theorem slept (W : Wk P w K mg base k stk A s H fp h) (Z : Sleep P w base N env stk σ fp pd h) {σ' : Sg} (I : Inv (gX P w K mg base N env stk A s (mix s H env.locals fp pd)) pins σ' G s') (hs : Same (mix s H env.locals fp pd) G)
    (sub : ∀ b ∈ fp, b ∈ fp') (new : ∀ b ∈ fp', (b ∈ fp ∨ s.heap.objs.size ≤ b) ∧ ∀ u, G b = some u → plain u) :
    Prom P w stk s H fp s' (out s H env.locals fp' G) ∧ (∀ b ∈ fp', out s H env.locals fp' G b = none) ∧ ∀ b u, (∀ v, u ≠ .frz v (.own 0)) → ¬ plain u → G b = some u → out s H env.locals fp' G b = some u := by
  have frz : ∀ b o, b ∉ fp → H b = none → env.locals ≤ b → s.heap.get? b = some o → G b = some (.frz o (.own 0)) ∧ s'.heap.get? b = some o := fun b o hb hn hl e => by
    have z := hs b _ (mix_frz (pd := pd) hb hn hl e)
    exact ⟨z, (I.hok b _ z).1⟩
  have nin : ∀ b u, H b = some u → b ∉ fp' := fun b u e hm => by
    rcases (new b hm).1 with z | z
    · rw [W.no b z] at e; cases e
    · exact absurd (W.e0.hok.lt e) (Nat.not_lt_of_le z)
  have nfp : ∀ b u, H b = some u → b ∉ fp := fun b u e hm => nin b u e (sub b hm)
  have sm : Same H (out s H env.locals fp' G) := fun b u e => by
    unfold out
    rw [if_neg, hs b u (mix_old (nfp b u e) e)]
    rintro (z | ⟨z, _⟩)
    · exact nin b u e z
    · rw [e] at z; cases z
  have pass : ∀ b u, (∀ v, u ≠ .frz v (.own 0)) → ¬ plain u → G b = some u → out s H env.locals fp' G b = some u := fun b u h1 h2 e => by
    unfold out
    rw [if_neg, e]
    rintro (z | ⟨z1, z2, o, z3⟩)
    · exact h2 ((new b z).2 u e)
    · by_cases hb : b ∈ fp
      · exact h2 ((new b (sub b hb)).2 u e)
      · have := (frz b o hb z1 z2 z3).1
        rw [e] at this
        exact h1 o (Option.some.inj this)
  have low : ∀ b, b < env.locals → b ∉ fp := fun b hb hm => absurd (Z.young b hm) (Nat.not_le_of_lt hb)
  refine ⟨⟨I.os, I.bare, ⟨fun b o e hn hf hx => ?_, fun b o e hn hf hx => ?_, fun b o e hn hx => ?_, fun b o e hx => ?_, fun b xs e => sm b _ e, fun b o u e => sm b _ e, fun b ps e => ⟨#[], by rw [sm b _ e]; simp⟩⟩, fun b u e => ?_, sm⟩, fun b hb => ?_, pass⟩
  · by_cases hl : env.locals ≤ b
    · exact (frz b o hx hn hl e).2
    · exact I.base.keep b o (cut_get.mpr ⟨Nat.lt_of_not_le hl, e⟩) ((mix_low hx (Nat.lt_of_not_le hl)).trans hn) hf (by intro z; exact absurd (show b ∈ ([] : List Addr) from z) (by simp))
  · have hl := Z.frs b hf
    exact I.base.slot b o (cut_get.mpr ⟨hl, e⟩) ((mix_low hx hl).trans hn) hf (by intro z; exact absurd (show b ∈ ([] : List Addr) from z) (by simp))
  · unfold out
    by_cases hl : env.locals ≤ b
    · rw [if_pos (.inr ⟨hn, hl, o, e⟩)]
    · by_cases hc : b ∈ fp' ∨ (H b = none ∧ env.locals ≤ b ∧ ∃ o, s.heap.get? b = some o)
      · rw [if_pos hc]
      · rw [if_neg hc]
        exact I.base.free b o (cut_get.mpr ⟨Nat.lt_of_not_le hl, e⟩) ((mix_low hx (Nat.lt_of_not_le hl)).trans hn) (by intro z; exact absurd (show b ∈ ([] : List Addr) from z) (by simp))
  · by_cases hl : env.locals ≤ b
    · cases q : H b with
      | none => exact ⟨o, (frz b o hx q hl e).2⟩
      | some u => exact there (I.hok b u (hs b u (mix_old hx q)))
    · exact I.base.there b o (cut_get.mpr ⟨Nat.lt_of_not_le hl, e⟩) (by intro z; exact absurd (show b ∈ ([] : List Addr) from z) (by simp))
  · have hc : ¬ (b ∈ fp' ∨ (H b = none ∧ env.locals ≤ b ∧ ∃ o, s.heap.get? b = some o)) := fun z => by
      unfold out at e
      rw [if_pos z] at e; cases e
    unfold out at e
    rw [if_neg hc] at e
    exact (I.hok b u e).stay (fun _ _ _ z => z) (fun d z => pass d _ (fun v q => by cases q) (fun q => q) z) fun d xs z => pass d _ (fun v q => by cases q) (fun q => q) z
  · unfold out
    rw [if_pos (.inl hb)]
end
end
end Tw
/-! Grd: a generator that is ready to be woken, as a walk. -/
namespace Tw
open PySem PyProof.Rows L2 GenW

/-- f: how often it may still be woken; i: the turn; fp: its own objects, as they stand at h -/
def Ready (P : Program) (w : World) (K : PySem.W.Frag) (mg : Str → Option Value) (base : Heap) (k : Nat) (stk : List Env) (J : It) : Nat → Nat → List Addr → Heap → GenState → Prop
  | 0, _, _, _, _ => False
  | f + 1, i, fp, h, gs => ∀ (A : Around) (s : Shared) (H : Hp), Wk P w K mg base k stk A s H fp h →
    (J.go i H → StepOf (model P w) A (Told (fun v gs' s' => ∃ x H' fp', Prom P w stk s H fp s' H' ∧ Mine s fp s' H' fp' ∧ RelV x v ∧ J.yld i H x H' ∧ gs'.bare = true ∧ sleeps gs' ∧ Ready P w K mg base k stk J f (i + 1) fp' s'.heap gs') fun _ => False) gs s) ∧
    (J.stop i H → StepOf (model P w) A (Told (fun _ _ _ => False) fun s' => ∃ H', Prom P w stk s H fp s' H') gs s)
section
variable {P : Program} {w : World} {K : PySem.W.Frag} {mg : Str → Option Value} {base : Heap} {k : Nat} {stk : List Env} {J : It}
theorem Ready.keep {f i : Nat} {fp : List Addr} {h h' : Heap} {gs : GenState} (r : Ready P w K mg base k stk J f i fp h gs) (kp : ∀ b ∈ fp, ∀ o, h.get? b = some o → h'.get? b = some o) : Ready P w K mg base k stk J f i fp h' gs := by
  cases f with
  | zero => exact r
  | succ f => exact fun A s H W => r A s H ⟨W.e0, W.room, W.no, fun b hb o e => W.keep b hb o (kp b hb o e)⟩
/-- the walk's state; n: how many turns there are -/
def gAt (P : Program) (w : World) (K : PySem.W.Frag) (mg : Str → Option Value) (base : Heap) (k : Nat) (stk : List Env) (J : It) (n : Nat) (a : Addr) (g : Nat) : Nat → List Addr → Heap → Array GenState → Prop := fun i fpc h G =>
  ∃ fp, fpc = a :: fp ∧ a ∉ fp ∧ h.IsGen a g ∧ (∀ b ∈ fp, ∃ o, h.get? b = some o ∧ ∀ v, o.data ≠ .cell v) ∧ ∃ gs, G[g]? = some gs ∧ (0 < i → sleeps gs) ∧ ∃ f, f + i = n + 1 ∧ Ready P w K mg base k stk J f i fp h gs
theorem runG {tg : Expr} {n : Nat} {a : Addr} {g : Nat} (hgo : ∀ i H, J.go i H → i < n) (hst : ∀ i H, J.stop i H → i ≤ n) : TurnG P w K mg base tg J a (k + 1) stk (gAt P w K mg base k stk J n a g) where
  obj := by
    rintro i fpc h G ⟨fp, rfl, _, hg, ho, _⟩ b hb
    rcases List.mem_cons.mp hb with rfl | hb
    · obtain ⟨o, nm, qn, e, _, d, _⟩ := hg
      exact ⟨o, e, fun v z => by rw [d] at z; cases z⟩
    · exact ho b hb
  keep := by
    rintro i fpc h h' G ⟨fp, rfl, hn, hg, ho, gs, e, sl, f, hf, r⟩ kp
    refine ⟨fp, rfl, hn, ?_, fun b hb => ?_, gs, e, sl, f, hf, r.keep fun b hb => kp b (List.mem_cons_of_mem _ hb)⟩
    · obtain ⟨o, nm, qn, e, z⟩ := hg
      exact ⟨o, nm, qn, kp _ List.mem_cons_self o e, z⟩
    · obtain ⟨o, e, d⟩ := ho b hb
      exact ⟨o, kp b (List.mem_cons_of_mem _ hb) o e, d⟩
  asl := by
    rintro i fpc h G ⟨fp, rfl, hn, hg, ho, gs, e, sl, z⟩
    exact ⟨g, gs, e, sl (Nat.succ_pos i), fun G' e' => ⟨fp, rfl, hn, hg, ho, gs, e', sl, z⟩⟩
  item := by
    rintro X rfl rfl rfl rfl rfl rfl hc hr i fpc pins s σ H I hf ⟨fp, rfl, hn, hg, ho, gs, e, sl, f, hff, r⟩ go
    obtain ⟨f, rfl⟩ : ∃ f', f = f' + 1 := ⟨f - 1, by have := hgo i H go; omega⟩
    have hgs : g < s.gens.size := (Array.getElem?_eq_some_iff.mp e).1
    have nfr : a ∉ frs X.stack := fun hm => (List.mem_cons.mp (I.stkSub a hm)).elim (hf a List.mem_cons_self).2.1 (hf a List.mem_cons_self).2.2.1
    have W : Wk X.prog X.w X.K X.mg X.base k X.stack X.A.in1 (s.setGen g .running) H fp s.heap := by
      obtain ⟨z1, z2, z3, z4, z5, z6, z7, z8⟩ := I.env0
      exact ⟨⟨z1, z2, z3, z4, z5, z6, z7, allBare_setGen z8 rfl⟩, hr.in1, fun b hb => (hf b (List.mem_cons_of_mem _ hb)).1, fun b hb o q => q⟩
    refine wpAny_gsz (n := g + 1) hgs (pyNextS (I.ok.hd hc) I.nolimit (by have := hr.dp; omega) hg e ((r _ _ _ W).1 go) (fun v gs' s₁ hv => ?_) fun _ z => z.elim)
    intro hsz
    have hsz : g < s₁.gens.size := by
      have q : (s₁.setGen g gs').gens.size = s₁.gens.size := setGen_size _ _ _
      omega
    obtain ⟨x, H', fp', p, mn, rx, hy, hb, hsl, rd⟩ := hv
    obtain ⟨o, nm, qn, eo, oc, od, os⟩ := id hg
    have eo' : s₁.heap.get? a = some o := p.un.keep a o eo (hf a List.mem_cons_self).1 nfr hn
    refine ⟨v, rfl, go_of (s := s₁.setGen g gs') eo' oc od (by decide) ?_⟩
    have J1 : Inv X pins σ H' (s₁.setGen g gs') := I.call' (s' := s₁.setGen g gs') (ch := fp) p.os p.un p.hok (allBare_setGen p.bare hb) fun b hb =>
      let z := (hf b (List.mem_cons_of_mem _ hb)).2; ⟨z.2.2.1, z.1, z.2.2.2.1, z.2.2.2.2⟩
    have na : a ∉ fp' := fun hm => (mn a hm).2.1.elim hn fun z => absurd (Heap.lt_size eo) (Nat.not_lt_of_le z)
    refine ⟨x, H', a :: fp', J1, rx, hy, ⟨fp', rfl, na, ⟨o, nm, qn, eo', oc, od, os⟩, fun b hb => (mn b hb).2.2, gs', setGen_at hsz, fun _ => hsl, f, by omega, rd⟩, fun b hb => ?_⟩
    rcases List.mem_cons.mp hb with rfl | hb
    · exact ⟨p.un.free _ o eo (hf _ List.mem_cons_self).1 hn, (hf _ List.mem_cons_self).2⟩
    · obtain ⟨z1, z2, _⟩ := mn b hb
      rcases z2 with z2 | z2
      · exact ⟨z1, (hf b (List.mem_cons_of_mem _ z2)).2⟩
      · exact I.fpOk z2 z1
  done := by
    rintro X rfl rfl rfl rfl rfl rfl hc hr i fpc pins s σ H I hf ⟨fp, rfl, hn, hg, ho, gs, e, sl, f, hff, r⟩ stop
    obtain ⟨f, rfl⟩ : ∃ f', f = f' + 1 := ⟨f - 1, by have := hst i H stop; omega⟩
    have W : Wk X.prog X.w X.K X.mg X.base k X.stack X.A.in1 (s.setGen g .running) H fp s.heap := by
      obtain ⟨z1, z2, z3, z4, z5, z6, z7, z8⟩ := I.env0
      exact ⟨⟨z1, z2, z3, z4, z5, z6, z7, allBare_setGen z8 rfl⟩, hr.in1, fun b hb => (hf b (List.mem_cons_of_mem _ hb)).1, fun b hb o q => q⟩
    refine pyNextS (I.ok.hd hc) I.nolimit (by have := hr.dp; omega) hg e ((r _ _ _ W).2 stop) (fun v gs' s₁ z => z.elim) fun s₁ ⟨H', p⟩ h' hk => ?_
    refine ⟨rfl, H', p.same, I.call' (s' := { s₁.setGen g .finished with heap := h' }) (ch := fp) p.os (p.un.trans (Un.kept hk)) (p.hok.kept hk) (allBare_setGen p.bare rfl) fun b hb => ?_⟩
    have z := (hf b (List.mem_cons_of_mem _ hb)).2
    exact ⟨z.2.2.1, z.1, z.2.2.2.1, z.2.2.2.2⟩
  self := by
    rintro A i fpc s Q E ⟨fp, rfl, hn, hg, _⟩ h
    exact wpAny_pyIter_gen hg h
end
end Tw
/-! Gcg: a generator def's call, and the walk over what it gives. -/
namespace Tw
open PySem PyProof.Rows L2 GenW

/-- what is asked of a call: the arguments, the heap; the walk it gives, how many turns it has -/
abbrev SpW := List V → Hp → It → Nat → Prop
/-- made: a generator that has not begun -/
def MadeG (P : Program) (w : World) (K : PySem.W.Frag) (mg : Str → Option Value) (base : Heap) (k : Nat) (stk : List Env) (J : It) (n : Nat) (s : Shared) (u : Value) (s' : Shared) : Prop :=
  ∃ (a : Addr) (g : Nat) (fpc : List Addr), u = .ref a ∧ s'.os = s.os ∧ AllBare s'.gens ∧ (∀ b o, s.heap.get? b = some o → s'.heap.get? b = some o) ∧ gAt P w K mg base k stk J n a g 0 fpc s'.heap s'.gens ∧ ∀ b ∈ fpc, s.heap.objs.size ≤ b
structure FnW (P : Program) (w : World) (K : PySem.W.Frag) (mg : Str → Option Value) (base : Heap) (k : Nat) (f : Addr) (fd : FuncData) (ps : List Str) (sp : SpW) : Prop where
  len : ∀ vs H J n, sp vs H J n → vs.length = ps.length
  run : ∀ (A : Around) (stk : List Env) (s : Shared) (H : Hp) (args : Args) (us : List Value) (vs : List V) (J : It) (n : Nat), Room (k + 1) A → Env0 P w K mg base A stk s H → BindsTo s fd args (ps.zip us) → Vals vs us → sp vs H J n →
    codeAny (model P w) A (.call (.ref f) args) (fun r s' => match r with | .ok (.ret u) => MadeG P w K mg base k stk J n s u s' | _ => False) s
/-- THE RULE: a generator def (no cells), by what one waking after another does -/
theorem gen_of {P : Program} {w : World} {K : PySem.W.Frag} {mg : Str → Option Value} {base : Heap} {k : Nat} {f : Addr} {name qual : Str} {params : Arguments} {body : List Stmt} {scope : Scope} {dV kV doc pm cdv ct oc : Value} {an od : Option Addr}
    {osl : Array (Option Value)} {N ps : List Str} {sp : SpW} (lk : K.lookup f = some ⟨oc, od, .func (PySem.W.fnOf name qual params body scope dV kV doc pm an cdv ct), osl⟩) (hcd : PySem.W.codeIn K cdv qual = true) (S : GScope N ps scope)
    (hcl : ∀ n, cellsFrom n scope.names [] = []) (hnc : ∀ y ∈ scope.names, y.2 ≠ .cell ∧ y.2 ≠ .free) (len : ∀ vs H J n, sp vs H J n → vs.length = ps.length)
    (hbody : ∀ (stk : List Env) (H : Hp) (vs : List V) (J : It) (n : Nat) (h : Heap) (L : Addr), base.objs.size ≤ L → (∀ b ∈ frs stk, b < L) → GEnv (envOfC qual scope L f cdv) N → LocOk N (envOfC qual scope L f cdv) (start N vs) h → sp vs H J n →
      Ready P w K mg base k stk J (n + 1) 0 [L] h (.fresh (.func body (envOfC qual scope L f cdv)))) :
    FnW P w K mg base k f (PySem.W.fnOf name qual params body scope dV kV doc pm an cdv ct) ps sp := by
  refine ⟨len, fun A stk s H args us vs J n hr e0 hb r hsp => ?_⟩
  have KX : K.In s.heap := e0.mod.kin.keeps fun b o e => (e0.bs b o e).1
  have lim : s.heap.NoLimit := e0.mod.nolimit.keeps fun b o e => (e0.bs b o e).1
  have hkind : ∀ y ∈ ps.zip us, scope.names.lookup y.1 = some .local ∨ (scope.names.lookup y.1 = some .cell ∧ ((cellsFrom (s.heap.objs.size + 1) scope.names []).lookup y.1).isSome = true) := fun ⟨x, v⟩ hy =>
    (S.par x (List.of_mem_zip hy).1).elim .inl fun q => .inr ⟨q, PySem.W.cellsFrom_some _ _ _ (.inl q)⟩
  refine codeAny_call_generator hr.depth (KX _ _ lk) rfl S.co S.gen rfl (PySem.W.codeRec_of KX hcd) (hb _ _ _ _ (wpAny_newFunctionEnv_cells S.kind hkind fun env he s1 x => ?_))
  subst he
  have I1 := inv_startG (E := fun _ _ _ => False) S hr.hd e0 (len _ _ _ _ hsp) r x
  obtain ⟨h1, tk, es1, hk1⟩ := x.done
  have kp1 : ∀ b o, s.heap.get? b = some o → s1.heap.get? b = some o := x.toInCall.keep
  have lt1 : s.heap.objs.size < s1.heap.objs.size := x.toInCall.ns.lt
  refine ⟨lim.keeps kp1, ?_⟩
  have main : ∀ (go : Obj) (nm qn : Value) (tk2 : Nat), go.cls = .type "generator" → go.data = .fields #[.int s1.gens.size 0, nm, qn] → go.slots = #[] → (∀ h : Heap, (h.push go).get? h.objs.size = some go) →
      MadeG P w K mg base k stk J n s (.ref s1.heap.objs.size) { s1 with gens := s1.gens.push (.fresh (.func body (envOfC qual scope s.heap.objs.size f cdv))), toks := tk2, heap := s1.heap.push go } := by
    intro go nm qn tk2 hgc hgd hgs hgp
    have kp2 : ∀ b o, s1.heap.get? b = some o → (s1.heap.push go).get? b = some o := fun b o e => Heap.get?_push_of_some _ e
    obtain ⟨m, hn, hx⟩ := I1.loc
    have hL : s.heap.objs.size ≠ s1.heap.objs.size := Nat.ne_of_lt lt1
    refine ⟨_, _, _, rfl, by rw [es1], AllBare.push (by rw [es1]; exact e0.bare) rfl, fun b o e => kp2 b o (kp1 b o e), ⟨[s.heap.objs.size], rfl, fun z => hL (List.mem_singleton.mp z).symm, ⟨go, nm, qn, hgp _, hgc, hgd, hgs⟩, fun b hb => ?_, _, Array.getElem?_push_size .., fun z => absurd z (Nat.lt_irrefl 0), n + 1, rfl, ?_⟩, fun b hb => ?_⟩
    · rw [List.mem_singleton.mp hb]
      obtain ⟨o, es, ep, ho, hd, _⟩ := hn
      exact ⟨o, kp2 _ _ ho, fun v z => by rw [hd] at z; cases z⟩
    · refine hbody stk H vs J n _ s.heap.objs.size e0.bsz (fun b hb => ?_) ⟨S.kind, rfl, rfl, hcl _, rfl, fun y => ⟨fun z => (hnc _ (PySem.mem_of_lookup z)).1 rfl, fun z => (hnc _ (PySem.mem_of_lookup z)).2 rfl⟩⟩ ⟨I1.len, m, ?_, fun i y v e1 e2 e3 => ?_⟩ hsp
      · obtain ⟨_, o, ho, _⟩ := e0.funs.mem hb
        exact Heap.lt_size ho
      · obtain ⟨o, es, ep, ho, q⟩ := hn
        exact ⟨o, es, ep, kp2 _ _ ho, q⟩
      · obtain ⟨u, ru, l⟩ := hx i y v e1 e2 e3
        refine ⟨u, ru, ?_⟩
        rcases l with l | ⟨_, c, hc, _⟩
        · exact .inl l
        · exact absurd (show (cellsFrom (s.heap.objs.size + 1) scope.names []).lookup y = some c from hc) (by rw [hcl]; simp)
    · rcases List.mem_cons.mp hb with rfl | hb
      · exact Nat.le_of_lt lt1
      · rw [List.mem_singleton.mp hb]; exact Nat.le_refl _
  exact main _ _ _ _ rfl rfl rfl fun h => Heap.get?_push_size _ rfl

section
variable {X : Cx} {k : Nat} {f C : Addr} {fd : FuncData} {ps : List Str} {sp : SpW} {dvs : List V} {ds : List Value} {m : Str} {tg : Expr}
/-- what comes of a call, as a walk -/
theorem made_walk {pins : List (Addr × Obj)} {σ : Sg} {H : Hp} {s s' : Shared} {J : It} {n : Nat} {u : Value} {R : It → Hp → Prop} {E : Value → Shared → Prop} (I : Inv X pins σ H s) (hgo : ∀ i H, J.go i H → i < n) (hst : ∀ i H, J.stop i H → i ≤ n)
    (G : MadeG X.prog X.w X.K X.mg X.base k X.stack J n s u s') (hR : R J H) : Inv X pins σ H s' ∧ wpAny (model X.prog X.w) X.A (pyIter u) (PIEG X (k + 1) pins σ tg R) E s' := by
  obtain ⟨a, g, fpc, rfl, os, hb, kp, ga, yg⟩ := G
  have I1 : Inv X pins σ H s' := I.call' (ch := []) os (Un.kept kp) (I.hok.kept kp) hb fun b z => by simp at z
  have T := runG (P := X.prog) (w := X.w) (K := X.K) (mg := X.mg) (base := X.base) (k := k) (stk := X.stack) (J := J) (tg := tg) (n := n) (a := a) (g := g) hgo hst
  refine ⟨I1, T.self X.A 0 fpc s' _ _ ga ⟨a, fpc, _, J, H, rfl, I1, T, ga, fun b hb => I.fpOk (yg b hb) (I.hok.fresh (yg b hb)), hR⟩⟩
/-- the walk over o.m() -/
def tWMeth (C : Addr) (m : Str) (sp : SpW) (dvs : List V) (ta : TE) : TI := fun σ H R => ta σ H fun x H1 => ∃ a dx fs J n, x = .ref a ∧ H1 a = some (.ins C dx fs) ∧ fs.lookup m = none ∧ (∀ i H, J.go i H → i < n) ∧ (∀ i H, J.stop i H → i ≤ n) ∧ sp (x :: dvs) H1 J n ∧ R J H1
theorem pig_meth0 {o : Expr} {ta : TE} {pl : Sem Bool} {apos pos : Pos} (he : PE X o ta) (c : Cls X.K C) (hm : Meth X.K C m f) (F : FnW X.prog X.w X.K X.mg X.base k f fd ps sp) (hr : Room (k + 1) X.A) (hb : Binds X.K fd ps ds) (hd : Vals dvs ds)
    (ht : eval (.Call (.Attribute o m apos) [] [] pos) X.env = (do
      let ov ← eval o X.env
      standAt apos.atName
      let (f, first) ← holding [ov] (getMethod ov m pl)
      callWith pos f first (backTo pos (starEach [] X.env)) (backToKw pos (keywordEach [] X.env))) := by rfl) :
    PIG X (k + 1) tg (.Call (.Attribute o m apos) [] [] pos) (tWMeth C m sp dvs ta) := by
  refine ⟨fun pins s σ H R I h => PySem.W.methodCall_KW (pl := pl) (thn (he.run pins s σ H _ I h) fun u s1 ⟨x, H1, I1, rx, a, dx, fs, J, n, ex, ea, l, hgo, hst, q, hR⟩ => ?_) ht⟩
  subst ex
  obtain rfl : u = Value.ref a := rx
  refine getmeth_ok I1 ea c hm l (PySem.W.callWith_K0 (first := [.ref a]) I1.kIn hm.kp ?_)
  have r1 : Vals [V.ref a] [Value.ref a] := .cons rfl .nil
  have r2 : Vals ([V.ref a] ++ dvs) ([Value.ref a] ++ ds) := r1.append hd
  have hl : ([Value.ref a] ++ ds).length = ps.length := r2.length ▸ F.len _ _ _ _ q
  refine wpAny_call (codeAny_mono (F.run X.A X.stack s1 H1 ⟨[.ref a], []⟩ ([.ref a] ++ ds) ([.ref a] ++ dvs) J n hr I1.env0 (hb s1 [.ref a] I1.kIn hl) r2 q) fun r s' hq => ?_)
  cases r with
  | error e => exact hq.elim
  | ok fl =>
    cases fl with
    | ret u => exact (made_walk I1 hgo hst hq hR).2
    | _ => exact hq.elim
end
end Tw
/-! Ggw: what is gone from the heap does not come back. -/
namespace Tw
open PySem PyProof.Rows L2 GenW
structure Grow (h h' : Heap) : Prop where
  size : h.objs.size ≤ h'.objs.size
  gone : ∀ b, b < h.objs.size → h.get? b = none → h'.get? b = none
theorem Grow.refl (h : Heap) : Grow h h := ⟨Nat.le_refl _, fun _ _ e => e⟩
theorem Grow.trans {a b c : Heap} (x : Grow a b) (y : Grow b c) : Grow a c := ⟨Nat.le_trans x.size y.size, fun d hd e => y.gone d (Nat.lt_of_lt_of_le hd x.size) (x.gone d hd e)⟩
theorem Grow.push (h : Heap) (o : Obj) : Grow h (h.push o) := by
  refine ⟨by rw [Heap.size_push]; exact Nat.le_succ _, fun b hb e => ?_⟩
  obtain ⟨objs, l⟩ := h
  have hb : b < objs.size := hb
  show (match (objs.push o)[b]? with | some ⟨_, _, .freed, _⟩ => none | o => o) = none
  rw [Array.getElem?_push_lt hb, ← Array.getElem?_eq_getElem hb]
  exact e
theorem Grow.update {h : Heap} {a : Addr} (f : Obj → Obj) (ha : (h.get? a).isSome) : Grow h (h.update a f) := by
  refine ⟨?_, fun b hb e => ?_⟩
  · obtain ⟨objs, l⟩ := h
    show objs.size ≤ (objs.modify a f).size
    rw [Array.size_modify]; exact Nat.le_refl _
  · have hne : a ≠ b := fun z => by rw [z, e] at ha; cases ha
    obtain ⟨objs, l⟩ := h
    show (match (objs.modify a f)[b]? with | some ⟨_, _, .freed, _⟩ => none | o => o) = none
    rw [Array.getElem?_modify, if_neg hne]
    exact e
theorem runs_grow {M : Model} {Γ : Ctx} {p : Pos} {t : Sem PySem.Fin} {fs : List Frame} {s s' : Shared} {e : End} (h : Runs M Γ p t fs s e s') : Grow s.heap s'.heap := by
  induction h <;> first
    | exact Grow.refl _
    | assumption
    | exact (Grow.update _ (by assumption)).trans (by assumption)
    | exact (Grow.push _ _).trans (by assumption)
    | exact Grow.trans (by assumption) (by assumption)
theorem stp_grow {M : Model} {A : Around} {T : End → Shared → Prop} {c : Code} {t : Sem PySem.Fin} {fs : List Frame} {s : Shared} (h : Step M A (fun e s' => Grow s.heap s'.heap → T e s') c t fs s) : Step M A T c t fs s := by
  rintro Γ p rfl hΓ
  obtain ⟨e, s', hr, he⟩ := h Γ p rfl hΓ
  exact ⟨e, s', hr, he (runs_grow hr)⟩
end Tw
/-! Gfy: a generator whose body ends with «for target in iter: yield (e, ..)». -/
namespace Tw
open PySem PyProof.Rows L2 GenW

section
variable {P : Program} {w : World} {K : PySem.W.Frag} {mg : Str → Option Value} {base : Heap} {k : Nat} {stk : List Env} {A : Around} {s s' : Shared} {H pd G : Hp} {fp : List Addr} {h : Heap} {N : List Str} {env : Env} {σ σ' : Sg} {pins : List (Addr × Obj)}
theorem stp_mono {M : Model} {T T' : End → Shared → Prop} {c : Code} {t : Sem PySem.Fin} {fs : List Frame} (h : Step M A T c t fs s) (hT : ∀ e s', T e s' → T' e s') : Step M A T' c t fs s := by
  rintro Γ p rfl hΓ
  obtain ⟨e, s', hr, he⟩ := h Γ p rfl hΓ
  exact ⟨e, s', hr, hT e s' he⟩
/-- what was no thing of the waking is younger than it -/
theorem newer (W : Wk P w K mg base k stk A s H fp h) (Z : Sleep P w base N env stk σ fp pd h) (I : Inv (gX P w K mg base N env stk A s (mix s H env.locals fp pd)) pins σ' G s') (sm : Same (mix s H env.locals fp pd) G) (gr : Grow s.heap s'.heap) {b : Addr} {o : Obj}
    (hb : b ∉ fp) (hn : mix s H env.locals fp pd b = none) (e : s'.heap.get? b = some o) (hG : (G b = none ∧ env.locals ≤ b) ∨ ∃ u, G b = some u ∧ plain u) : s.heap.objs.size ≤ b := by
  refine Nat.le_of_not_lt fun hlt => ?_
  have hH := mix_none hb hn
  cases q : s.heap.get? b with
  | none => rw [gr.gone b hlt q] at e; cases e
  | some o' =>
    by_cases hl : env.locals ≤ b
    · rw [mix_frz hb hH hl q] at hn
      cases hn
    · rcases hG with ⟨_, z⟩ | ⟨u, z, _⟩
      · exact hl z
      · have := I.base.free b o' (cut_get.mpr ⟨Nat.lt_of_not_le hl, q⟩) hn (by intro y; exact absurd (show b ∈ ([] : List Addr) from y) (by simp))
        rw [z] at this; cases this
end
/-- the consumer's walk over tuples: Pre is asked of the first turn, Rt tells the i-th tuple -/
def Jt (n : Nat) (Pre : Hp → Prop) (Rt : Nat → List V → Prop) : It :=
  ⟨fun i H => i < n ∧ (i = 0 → Pre H), fun i H x H' => ∃ T xs, x = .ref T ∧ H T = none ∧ Same H H' ∧ H' T = some (.tup xs) ∧ Rt i xs, fun i H => i = n ∧ (i = 0 → Pre H)⟩
section
variable {P : Program} {w : World} {K : PySem.W.Frag} {mg : Str → Option Value} {base : Heap} {k : Nat} {stk : List Env} {N : List Str} {env : Env} {n : Nat} {Pre : Hp → Prop} {Rt : Nat → List V → Prop} {tgt e : Expr} {yp yq : Pos} {g : TG} {te : TE}
/-- the loop's own: its iterator, what is known of the names and the data at each turn -/
structure Loop (P : Program) (w : World) (K : PySem.W.Frag) (mg : Str → Option Value) (base : Heap) (k : Nat) (stk : List Env) (N : List Str) (env : Env) (n : Nat) (Rt : Nat → List V → Prop) (tgt e : Expr) (g : TG) (te : TE) (J : It) (fpT : List Addr) (it : Addr) (tn : Nat → Heap → Prop) (dl : List Addr)
    (Sd : Nat → Sg → Hp → Prop) : Prop where
  turn : Turn P w K tgt J fpT it tn
  hg : ∀ A s M, PG (gX P w K mg base N env stk A s M) tgt g
  he : ∀ A s M, Room k A → PE (gX P w K mg base N env stk A s M) e te
  data : ∀ i σ G, Sd i σ G → ∀ b ∈ dl, ∃ u, G b = some u ∧ plain u
  only : ∀ i σ G G', Sd i σ G → (∀ b ∈ dl, G' b = G b) → Sd i σ G'
  step : ∀ i σ G, i < n → Sd i σ G → J.go i G ∧ ∀ x G1, J.yld i G x G1 → g x σ G1 fun σ2 G2 => te σ2 G2 fun y G3 => Sd (i + 1) σ2 G3 ∧ Same G G3 ∧ ∃ T xs, y = .ref T ∧ G T = none ∧ G3 T = some (.tup xs) ∧ Rt i xs
  stop : ∀ σ G, Sd n σ G → J.stop n G
  yldS : ∀ i G x G1, J.yld i G x G1 → Same G G1
/-- what stands while the generator sleeps ahead of turn i -/
structure Stand (P : Program) (w : World) (base : Heap) (stk : List Env) (N : List Str) (env : Env) (fpT : List Addr) (tn : Nat → Heap → Prop) (dl : List Addr) (Sd : Nat → Sg → Hp → Prop) (i : Nat) (σ : Sg) (fp : List Addr) (pd : Hp) (h : Heap) : Prop where
  Z : Sleep P w base N env stk σ fp pd h
  sd : Sd i σ pd
  tn : tn i h
  ft : ∀ b ∈ fpT, b ∈ fp ∧ pd b = none ∧ b ≠ env.locals ∧ b ∉ frs stk
  fd : ∀ b ∈ dl, b ∈ fp
/-- what a waking ends with -/
def TB (P : Program) (w : World) (K : PySem.W.Frag) (mg : Str → Option Value) (base : Heap) (k : Nat) (stk : List Env) (n : Nat) (Pre : Hp → Prop) (Rt : Nat → List V → Prop) (f i : Nat) (s : Shared) (H : Hp) (fp : List Addr) : End → Shared → Prop :=
  Told (fun v gs' s' => i < n ∧ ∃ x H' fp', Prom P w stk s H fp s' H' ∧ Mine s fp s' H' fp' ∧ RelV x v ∧ (Jt n Pre Rt).yld i H x H' ∧ gs'.bare = true ∧ sleeps gs' ∧ Ready P w K mg base k stk (Jt n Pre Rt) f (i + 1) fp' s'.heap gs')
    fun s' => i = n ∧ ∃ H', Prom P w stk s H fp s' H'
/-- the frame that the loop comes back to -/
abbrev lpFrame (env : Env) (body : List Stmt) (K0 : Flow → Sem PySem.Fin) (J0 : Value → Sem PySem.Fin) (p : Pos) : Frame := .ret (fromLoop env K0 J0 id id) none false [] (.func body env) p []
theorem ready_of {f i : Nat} {fp : List Addr} {h : Heap} {gs : GenState} (hh : ∀ A s H, Wk P w K mg base k stk A s H fp h → (i = 0 → Pre H) → StepOf (model P w) A (TB P w K mg base k stk n Pre Rt f i s H fp) gs s) :
    Ready P w K mg base k stk (Jt n Pre Rt) (f + 1) i fp h gs := by
  have mono : ∀ {A : Around} {T T' : End → Shared → Prop} {s : Shared}, StepOf (model P w) A T gs s → (∀ e s', T e s' → T' e s') → StepOf (model P w) A T' gs s := fun {A T T' s} h hT => by
    cases gs with
    | fresh c => exact stp_mono h hT
    | suspended k₀ l₀ c₀ p₀ fs₀ cl => exact stp_mono h hT
    | _ => exact h
  intro A s H W
  refine ⟨fun go => mono (hh A s H W go.2) fun e s' z => ?_, fun st => mono (hh A s H W st.2) fun e s' z => ?_⟩
  · cases e with
    | susp v g l kk c p fs => exact ⟨z.1, z.2.2⟩
    | ret r =>
      cases r with
      | error x => exact z.elim
      | ok fl =>
        cases fl with
        | ret v =>
          cases v with
          | none =>
            have hz : i = n := z.1
            have := go.1
            omega
          | _ => exact z.elim
        | _ => exact z.elim
  · cases e with
    | susp v g l kk c p fs =>
      have hz : i < n := z.2.1
      have := st.1
      omega
    | ret r =>
      cases r with
      | error x => exact z.elim
      | ok fl =>
        cases fl with
        | ret v =>
          cases v with
          | none => exact z.2
          | _ => exact z.elim
        | _ => exact z.elim
variable {J : It} {fpT : List Addr} {it : Addr} {tn : Nat → Heap → Prop} {dl : List Addr} {Sd : Nat → Sg → Hp → Prop} {body : List Stmt}
/-- the loop runs on, ahead of turn i; the waking that this belongs to began at s, H with fp, pd -/
theorem loop_on (Lp : Loop P w K mg base k stk N env n Rt tgt e g te J fpT it tn dl Sd) (hco : env.scope.isCoroutine = false) (hin : interactive env = false) {K0 : Flow → Sem PySem.Fin} {J0 : Value → Sem PySem.Fin} (hK0 : K0 .next = leafOf (.ok (.ret .none))) {pp : Pos} {f i : Nat}
    (next : i < n → ∀ σ fp pd h k₀ l p cl, Stand P w base stk N env fpT tn dl Sd (i + 1) σ fp pd h → (∀ b ∈ fp, b ∈ env.locals :: (fpT ++ dl)) →
      (∀ A' T' s'', Step (model P w) A' T' (.forLoop tgt (.ref it) [.Expr (.Yield (some e) yp) yq] [] env) (.pure (.again (.forLoop tgt (.ref it) [.Expr (.Yield (some e) yp) yq] [] env))) [lpFrame env body K0 J0 pp] s'' → Step (model P w) A' T' (.forLoop tgt (.ref it) [.Expr (.Yield (some e) yp) yq] [] env) (k₀ (.send .none)) [lpFrame env body K0 J0 pp] s'') →
      Ready P w K mg base k stk (Jt n Pre Rt) f (i + 1) fp h (.suspended k₀ l (.forLoop tgt (.ref it) [.Expr (.Yield (some e) yp) yq] [] env) p [lpFrame env body K0 J0 pp] cl))
    {A : Around} {s : Shared} {H pd : Hp} {fp : List Addr} {h : Heap} {σ0 : Sg} (W : Wk P w K mg base k stk A s H fp h) (Z : Sleep P w base N env stk σ0 fp pd h) (hi : i ≤ n)
    {s1 : Shared} {σ : Sg} {G : Hp} (I : Inv (gX P w K mg base N env stk A s (mix s H env.locals fp pd)) [] σ G s1) (sm : Same (mix s H env.locals fp pd) G) (sd : Sd i σ G) (ht : tn i s1.heap) (hf : ∀ b ∈ fpT, FpOk (gX P w K mg base N env stk A s (mix s H env.locals fp pd)) [] G b)
    (hdl : ∀ b ∈ dl, b ∈ fp ∨ mix s H env.locals fp pd b = none) (hfp : ∀ b ∈ fp, b ∈ env.locals :: (fpT ++ dl)) :
    Step (model P w) A (fun e s' => Grow s.heap s'.heap → TB P w K mg base k stk n Pre Rt f i s H fp e s') (.forLoop tgt (.ref it) [.Expr (.Yield (some e) yp) yq] [] env) ((model P w).den (.forLoop tgt (.ref it) [.Expr (.Yield (some e) yp) yq] [] env)) [lpFrame env body K0 J0 pp] s1 := by
  have hov : A.over (.forLoop tgt (.ref it) [.Expr (.Yield (some e) yp) yq] [] env) [lpFrame env body K0 J0 pp] = (gX P w K mg base N env stk A s (mix s H env.locals fp pd)).A := (over_loop rfl rfl).trans over_func
  have hL : env.locals ≤ s.heap.objs.size := by
    obtain ⟨_, m, ⟨o, _, _, ho, _⟩, _⟩ := Z.loc
    exact Nat.le_of_lt (Heap.lt_size (W.keep _ Z.here _ ho))
  refine stp_forLoop ?_
  rw [hov]
  by_cases hlt : i < n
  · obtain ⟨go, st⟩ := Lp.step i σ G hlt sd
    refine wpAny_mono (Lp.turn.item (gX P w K mg base N env stk A s (mix s H env.locals fp pd)) rfl rfl rfl rfl i [] s1 σ G Nx I hf ht go) (fun r s2 ⟨u, hr, h2⟩ => ?_) fun _ _ z => z
    subst hr
    refine wpAny_mono h2 (fun _ s3 ⟨x, G3, I3, r3, y3, t3, n3⟩ => ?_) fun _ _ z => z
    have J3 := I3.pinned (fun b hb => ⟨n3 b hb, (hf b hb).2⟩) (Lp.turn.obj _ _ t3)
    refine wpAny_mono ((Lp.hg A s _).run _ s3 σ G3 x u _ J3 r3 (st x G3 y3)) (fun _ s4 ⟨σ4, G4, I4, q4⟩ => ?_) fun _ _ z => z
    intro J1
    refine stp_cons (stp_Yield rfl rfl hco hin ?_)
    rw [hov]
    refine wpAny_mono ((Lp.he A s _ W.room).run _ s4 σ4 G4 _ I4 q4) (fun v s5 ⟨y, G5, I5, r5, sd5, sm5, T, xs, hy, hT, gT, hR⟩ => ?_) fun _ _ z => z
    intro l kk p hk
    have pinT : ∀ b ∈ fpT, ∀ o, s3.heap.get? b = some o → s5.heap.get? b = some o ∧ G5 b = none := fun b hb o eo =>
      let z := I5.pin (b, o) (List.mem_append_right _ (List.mem_append_right _ (mem_pinsAt hb eo)))
      ⟨z.1, z.2.1⟩
    have noT : ∀ b ∈ fpT, G5 b = none := fun b hb => by
      obtain ⟨o, eo, _⟩ := Lp.turn.obj _ _ t3 b hb
      exact (pinT b hb o eo).2
    have dat := Lp.data (i + 1) σ4 G5 sd5
    intro hgr
    have s05 := sm.trans sm5
    have newT : ∀ b ∈ fpT, (b ∈ fp ∨ s.heap.objs.size ≤ b) ∧ env.locals ≤ b := fun b hb => by
      obtain ⟨o, eo, _⟩ := Lp.turn.obj _ _ t3 b hb
      obtain ⟨z0, z1, z2, z3, _⟩ := hf b hb
      have z3 : env.locals ≤ b := z3.elim (fun y => absurd (show b ∈ ([] : List Addr) from y) (by simp)) fun y => by
        have : (cut s env.locals).heap.objs.size ≤ b := y
        rwa [cut_size hL] at this
      by_cases hm : b ∈ fp
      · exact ⟨.inl hm, z3⟩
      · exact ⟨.inr (newer W Z I5 s05 hgr hm (sm.free z0) (pinT b hb o eo).1 (.inl ⟨noT b hb, z3⟩)), z3⟩
    have newD : ∀ b ∈ dl, (b ∈ fp ∨ s.heap.objs.size ≤ b) ∧ env.locals ≤ b := fun b hb => by
      obtain ⟨u, e1, e2⟩ := dat b hb
      obtain ⟨o, eo⟩ := there (I5.hok b u e1)
      rcases hdl b hb with z | z
      · exact ⟨.inl z, Z.young b z⟩
      · by_cases hm : b ∈ fp
        · exact ⟨.inl hm, Z.young b hm⟩
        · have := newer W Z I5 s05 hgr hm z eo (.inr ⟨u, e1, e2⟩)
          exact ⟨.inr this, Nat.le_trans hL this⟩
    have nw : ∀ b ∈ env.locals :: (fpT ++ dl), (b ∈ fp ∨ s.heap.objs.size ≤ b) ∧ ∀ u, G5 b = some u → plain u := fun b hb => by
      rcases List.mem_cons.mp hb with rfl | hb
      · exact ⟨.inl Z.here, fun u z => by rw [show G5 env.locals = none from I5.free] at z; cases z⟩
      · rcases List.mem_append.mp hb with hb | hb
        · exact ⟨(newT b hb).1, fun u z => by rw [noT b hb] at z; cases z⟩
        · obtain ⟨u, e1, e2⟩ := dat b hb
          exact ⟨(newD b hb).1, fun v z => by rw [e1] at z; cases z; exact e2⟩
    obtain ⟨pr, ow, pass⟩ := slept W Z I5 s05 hfp nw
    have hT0 : T ∉ fp := fun hm => (nw T (hfp T hm)).2 _ gT
    have mine : Mine s fp s5 (out s H env.locals (env.locals :: (fpT ++ dl)) G5) (env.locals :: (fpT ++ dl)) := fun b hb => by
      refine ⟨ow b hb, (nw b hb).1, ?_⟩
      rcases List.mem_cons.mp hb with rfl | hb
      · obtain ⟨m, ⟨o, es, ep, ho, hd, _⟩, _⟩ := I5.loc
        exact ⟨o, ho, fun v z => by rw [hd] at z; cases z⟩
      · rcases List.mem_append.mp hb with hb | hb
        · obtain ⟨o, eo, d⟩ := Lp.turn.obj _ _ t3 b hb
          exact ⟨o, (pinT b hb o eo).1, d⟩
        · obtain ⟨u, e1, e2⟩ := dat b hb
          exact plain_obj (I5.hok b u e1) e2
    refine ⟨rfl, hlt, y, _, env.locals :: (fpT ++ dl), pr, mine, r5, ⟨T, xs, hy, mix_none hT0 (sm.free hT), pr.same, pass T _ (fun v z => by cases z) (fun z => z) gT, hR⟩, rfl, trivial, ?_⟩
    have nd : ∀ b, G5 b = none → b ∉ dl := fun b z hm => by
      obtain ⟨u, e1, _⟩ := dat b hm
      rw [z] at e1; cases e1
    let pd' : Hp := fun b => if b ∈ dl then G5 b else none
    have pdy : ∀ b, b ∈ dl → pd' b = G5 b := fun b hb => if_pos hb
    have pdn : ∀ b, b ∉ dl → pd' b = none := fun b hb => if_neg hb
    refine next hlt σ4 (env.locals :: (fpT ++ dl)) pd' s5.heap kk l p _ ⟨⟨Z.genv, Z.old, Z.frs, List.mem_cons_self, fun b hb => ?_, ⟨I5.len, I5.loc⟩, pdn _ (nd _ I5.free), fun b u e => ?_⟩, Lp.only (i + 1) σ4 G5 pd' sd5 pdy, Lp.turn.keep _ _ _ t3 fun b hb o eo => (pinT b hb o eo).1, fun b hb => ⟨List.mem_cons_of_mem _ (List.mem_append_left _ hb), pdn _ (nd _ (noT b hb)), (hf b hb).2.1, (hf b hb).2.2.1⟩, fun b hb => List.mem_cons_of_mem _ (List.mem_append_right _ hb)⟩ (fun b hb => hb) fun A' T' s'' z => hk A' T' s'' z
    · rcases List.mem_cons.mp hb with rfl | hb
      · exact Nat.le_refl _
      · rcases List.mem_append.mp hb with hb | hb
        · exact (newT b hb).2
        · exact (newD b hb).2
    · by_cases hb : b ∈ dl
      · have e' := (pdy b hb).symm.trans e
        obtain ⟨u', e1, e2⟩ := dat b hb
        rw [e'] at e1
        cases e1
        exact ⟨List.mem_cons_of_mem _ (List.mem_append_right _ hb), e2, plain_stay (I5.hok b u e') e2 fun o z => z⟩
      · rw [pdn b hb] at e; cases e
  · have hin' : i = n := by omega
    subst hin'
    refine wpAny_mono (Lp.turn.done (gX P w K mg base N env stk A s (mix s H env.locals fp pd)) rfl rfl rfl rfl i [] s1 σ G Nx I hf ht (Lp.stop σ G sd)) (fun r s2 ⟨hr, I2⟩ => ?_) fun _ _ z => z
    subst hr
    refine stp_leaf (.ok .next) ?_
    show Step _ _ _ _ (K0 .next) [] s2
    rw [hK0]
    refine stp_end (.ok (.ret .none)) fun _ => ⟨rfl, _, (slept W Z I2 sm (fun b hb => hb) fun b hb => ⟨.inl hb, fun u z => ?_⟩).1⟩
    rcases List.mem_cons.mp (hfp b hb) with rfl | hb
    · rw [show G env.locals = none from I2.free] at z; cases z
    · rcases List.mem_append.mp hb with hb | hb
      · rw [(hf b hb).1] at z; cases z
      · obtain ⟨v, e1, e2⟩ := Lp.data i σ G sd b hb
        rw [e1] at z; cases z; exact e2
/-- asleep ahead of turn i -/
theorem ready_on (Lp : Loop P w K mg base k stk N env n Rt tgt e g te J fpT it tn dl Sd) (hco : env.scope.isCoroutine = false) (hin : interactive env = false) {K0 : Flow → Sem PySem.Fin} {J0 : Value → Sem PySem.Fin} (hK0 : K0 .next = leafOf (.ok (.ret .none))) {pp : Pos} :
    ∀ (f i : Nat), f + i = n + 1 → 0 < i → i ≤ n → ∀ σ fp pd h k₀ l p cl, Stand P w base stk N env fpT tn dl Sd i σ fp pd h → (∀ b ∈ fp, b ∈ env.locals :: (fpT ++ dl)) →
      (∀ A' T' s'', Step (model P w) A' T' (.forLoop tgt (.ref it) [.Expr (.Yield (some e) yp) yq] [] env) (.pure (.again (.forLoop tgt (.ref it) [.Expr (.Yield (some e) yp) yq] [] env))) [lpFrame env body K0 J0 pp] s'' → Step (model P w) A' T' (.forLoop tgt (.ref it) [.Expr (.Yield (some e) yp) yq] [] env) (k₀ (.send .none)) [lpFrame env body K0 J0 pp] s'') →
      Ready P w K mg base k stk (Jt n Pre Rt) f i fp h (.suspended k₀ l (.forLoop tgt (.ref it) [.Expr (.Yield (some e) yp) yq] [] env) p [lpFrame env body K0 J0 pp] cl) := by
  intro f
  induction f with
  | zero => intro i h1 _ h3; omega
  | succ f ih =>
    intro i h1 h2 h3 σ fp pd h k₀ l p cl S hfp hk
    refine ready_of fun A s H W _ => ?_
    show Step (model P w) A _ (.forLoop tgt (.ref it) [.Expr (.Yield (some e) yp) yq] [] env) (k₀ (.send .none)) [lpFrame env body K0 J0 pp] s
    have hL : env.locals ≤ s.heap.objs.size := by
      obtain ⟨_, m, ⟨o, _, _, ho, _⟩, _⟩ := S.Z.loc
      exact Nat.le_of_lt (Heap.lt_size (W.keep _ S.Z.here _ ho))
    refine stp_grow (hk _ _ _ (stp_again rfl (loop_on Lp hco hin hK0 (fun hlt σ' fp' pd' h' k' l' p' cl' S' hf' hk' => ih (i + 1) (by omega) (Nat.succ_pos i) hlt σ' fp' pd' h' k' l' p' cl' S' hf' hk') W S.Z h3 (wake W S.Z) (Same.refl _) (Lp.only i σ pd _ S.sd fun b hb => mix_own (S.fd b hb))
      (Lp.turn.keep _ _ _ S.tn fun b hb o eo => W.keep b (S.ft b hb).1 o eo) (fun b hb => ?_) (fun b hb => .inl (S.fd b hb)) hfp)))
    obtain ⟨z1, z2, z3, z4⟩ := S.ft b hb
    exact ⟨(mix_own z1).trans z2, z3, z4, .inr (Nat.le_trans (Nat.le_of_eq (cut_size hL)) (S.Z.young b z1)), fun x c y => (by
      have y : env.cells.lookup x = some c := y
      rw [S.Z.genv.cells] at y
      cases y), fun p hp => absurd (show p ∈ ([] : List (Addr × Obj)) ++ [] from hp) (by simp)⟩
/-- a loop's reading, but for its iterator -/
structure LoopS (n : Nat) (Rt : Nat → List V → Prop) (g : TG) (te : TE) (J : It) (dl : List Addr) (Sd : Nat → Sg → Hp → Prop) : Prop where
  data : ∀ i σ G, Sd i σ G → ∀ b ∈ dl, ∃ u, G b = some u ∧ plain u
  only : ∀ i σ G G', Sd i σ G → (∀ b ∈ dl, G' b = G b) → Sd i σ G'
  step : ∀ i σ G, i < n → Sd i σ G → J.go i G ∧ ∀ x G1, J.yld i G x G1 → g x σ G1 fun σ2 G2 => te σ2 G2 fun y G3 => Sd (i + 1) σ2 G3 ∧ Same G G3 ∧ ∃ T xs, y = .ref T ∧ G T = none ∧ G3 T = some (.tup xs) ∧ Rt i xs
  stop : ∀ σ G, Sd n σ G → J.stop n G
  yldS : ∀ i G x G1, J.yld i G x G1 → Same G G1
/-- not begun: a statement, then the loop -/
theorem ready_first {st1 : Stmt} {t1 : TS} {iter : Expr} {wi : TI} {pos : Pos} {h : Heap} {σ0 : Sg} (h1 : ∀ A s M, Room k A → PS (gX P w K mg base N env stk A s M) st1 t1) (hi : ∀ A s M, Room k A → PI (gX P w K mg base N env stk A s M) tgt iter wi)
    (hg : ∀ A s M, PG (gX P w K mg base N env stk A s M) tgt g) (he : ∀ A s M, Room k A → PE (gX P w K mg base N env stk A s M) e te) (hs : ∀ x, foldedSetIterable iter env x = pure x) (hco : env.scope.isCoroutine = false) (hin : interactive env = false)
    (Z : Sleep P w base N env stk σ0 [env.locals] (fun _ => none) h)
    (hpre : ∀ H M, Pre H → Same H M → t1 { nx := fun σ1 G1 => wi σ1 G1 fun J G2 => Same M G2 ∧ ∃ dl Sd, LoopS n Rt g te J dl Sd ∧ Sd 0 σ1 G2 ∧ ∀ b ∈ dl, M b = none, rt := fun _ _ => False } σ0 M) :
    Ready P w K mg base k stk (Jt n Pre Rt) (n + 1) 0 [env.locals] h (.fresh (.func [st1, .For tgt iter [.Expr (.Yield (some e) yp) yq] [] pos] env)) := by
  refine ready_of fun A s H W hp => ?_
  have hov : A.over (.func [st1, .For tgt iter [.Expr (.Yield (some e) yp) yq] [] pos] env) [] = (gX P w K mg base N env stk A s (mix s H env.locals [env.locals] fun _ => none)).A := over_func
  have sHM : Same H (mix s H env.locals [env.locals] fun _ => none) := fun b u z => mix_old (fun hm => by rw [List.mem_singleton.mp hm, W.no _ List.mem_cons_self] at z; cases z) z
  show Step (model P w) A _ (.func [st1, .For tgt iter [.Expr (.Yield (some e) yp) yq] [] pos] env) _ [] s
  refine stp_grow (stp_func fun J0 => stp_cons (stp_wrap ?_))
  rw [hov]
  refine wpAny_mono ((h1 A s _ W.room).run [] s σ0 _ _ (wake W Z) (hpre H _ (hp rfl) sHM)) (fun f s1 hf => ?_) fun _ _ z => z
  cases f with
  | brk => obtain ⟨_, _, _, q⟩ := hf; exact q.elim
  | cont => obtain ⟨_, _, _, q⟩ := hf; exact q.elim
  | ret v => obtain ⟨_, _, _, _, _, q⟩ := hf; exact q.elim
  | next =>
    obtain ⟨σ1, G1, I1, q1⟩ := hf
    refine stp_cons (stp_For hs ?_)
    rw [hov]
    refine wpAny_mono ((hi A s _ W.room).run [] s1 σ1 G1 _ I1 q1) (fun v s2 h2 => wpAny_mono h2 (fun u s3 h3 => ?_) fun _ _ z => z) fun _ _ z => z
    obtain ⟨it, fpT, tn, J, G2, rfl, I2, T, t2, f2, sm, dl, Sd, LS, sd, hd⟩ := h3
    intro p
    have Lp : Loop P w K mg base k stk N env n Rt tgt e g te J fpT it tn dl Sd := ⟨T, hg, he, LS.data, LS.only, LS.step, LS.stop, LS.yldS⟩
    exact loop_on Lp hco hin rfl (fun hlt σ' fp' pd' h' k' l' p' cl' S' hf' hk' => ready_on Lp hco hin rfl n 1 (by omega) (Nat.lt_succ_self 0) hlt σ' fp' pd' h' k' l' p' cl' S' hf' hk') W Z (Nat.zero_le n) I2 sm sd t2 f2 (fun b hb => .inr (hd b hb)) fun b hb => by
      rw [List.mem_singleton.mp hb]
      exact List.mem_cons_self
end
/-- a comprehension over such a walk -/
theorem lcG_jt {n : Nat} {Pre : Hp → Prop} {Rt : Nat → List V → Prop} {g : TG} {tt : TT} {te : TE} {vs : List Nat} {σ : Sg} {H1 : Hp} {D : Addr} {Qd : Hp → Prop} (Pv : Nat → Hp → Prop) (h0 : Pv 0 (upd H1 D (.lst []))) (hp : ∀ H, Pv 0 H → Pre H)
    (hs : ∀ i T xs H H', i < n → Pv i H → Same H H' → H T = none → H' T = some (.tup xs) → Rt i xs → g (.ref T) (wipe σ vs) H' fun σ2 H2 => wipe σ2 vs = wipe σ vs ∧ tt σ2 H2 fun b H3 =>
      if b = true then te σ2 H3 fun y H4 => ∃ acc, H4 D = some (.lst acc) ∧ acc.length < sizeLine ∧ Pv (i + 1) (upd H4 D (.lst (acc ++ [y]))) else Pv (i + 1) H3)
    (hd : ∀ H H', Pv n H → Same H H' → Qd H') :
    ∃ W : Nat → Nat → Hp → Prop, (∃ m, W 0 m (upd H1 D (.lst []))) ∧ ∀ i m H, W i m H →
      ((Jt n Pre Rt).stop i H ∧ ∀ H', Same H H' → Qd H') ∨ ((Jt n Pre Rt).go i H ∧ ∃ Nx : Hp → Prop, (∀ H', Nx H' → ∃ m', m' < m ∧ W (i + 1) m' H') ∧ ∀ x H', (Jt n Pre Rt).yld i H x H' → g x (wipe σ vs) H' fun σ2 H2 => wipe σ2 vs = wipe σ vs ∧ tt σ2 H2 fun b H3 =>
        if b = true then te σ2 H3 fun y H4 => ∃ acc, H4 D = some (.lst acc) ∧ acc.length < sizeLine ∧ Nx (upd H4 D (.lst (acc ++ [y]))) else Nx H3) := by
  refine ⟨fun i m H => m = n - i ∧ i ≤ n ∧ Pv i H, ⟨n, rfl, Nat.zero_le _, h0⟩, ?_⟩
  rintro i m H ⟨rfl, hi, p⟩
  have pre : i = 0 → Pre H := fun e => hp H (by rw [← e]; exact p)
  by_cases hlt : i < n
  · refine .inr ⟨⟨hlt, pre⟩, Pv (i + 1), fun H' p' => ⟨n - (i + 1), by omega, rfl, hlt, p'⟩, fun x H' y => ?_⟩
    obtain ⟨T, xs, rfl, h1, h2, h3, h4⟩ := y
    exact hs i T xs H H' hlt p h2 h1 h3 h4
  · have e : i = n := by omega
    exact .inl ⟨⟨e, pre⟩, fun H' s => hd H H' (e ▸ p) s⟩
theorem jt_go {n : Nat} {Pre : Hp → Prop} {Rt : Nat → List V → Prop} : ∀ i H, (Jt n Pre Rt).go i H → i < n := fun _ _ h => h.1
theorem jt_st {n : Nat} {Pre : Hp → Prop} {Rt : Nat → List V → Prop} : ∀ i H, (Jt n Pre Rt).stop i H → i ≤ n := fun _ _ h => Nat.le_of_eq h.1
end Tw
/-! Tw: lambdas with a parameter and captured names, as values that are handed on: the heap at hand as the base of what is called. -/
namespace Tw
open PySem PySem.Spec PyProof.Rows L2 He LamX
/-- the heap at hand without what is tracked and without the frames -/
def baseN (h : Heap) (H : Hp) (fs : List Addr) : Heap := PySem.W.hideAll (hidT h H) fs
theorem baseN_get {h : Heap} {H : Hp} {fs : List Addr} {b : Addr} {o : Obj} (e : h.get? b = some o) (n : H b = none) (f : b ∉ fs) : (baseN h H fs).get? b = some o := PySem.W.hideAll_get fs (hidT_get e n) f
theorem of_baseN {h : Heap} {H : Hp} {fs : List Addr} {b : Addr} {o : Obj} (e : (baseN h H fs).get? b = some o) : h.get? b = some o ∧ H b = none := of_hidT (PySem.W.of_hideAll fs e)
theorem baseN_frame {h : Heap} {H : Hp} {fs : List Addr} {b : Addr} (hb : b ∈ fs) : (baseN h H fs).get? b = none := PySem.W.hideAll_none fs hb
theorem frames_base {h base base' : Heap} : ∀ {l : List Env}, (∀ b ∈ frs l, base'.get? b = none) → h.FunFrames base l → h.FunFrames base' l
  | [], _, _ => trivial
  | env :: rest, hb, ⟨k, ⟨L, o, e1, e2, e3, e4⟩, r⟩ => by
    have hm : ∀ b ∈ frs rest, b ∈ frs (env :: rest) := fun b hb => by
      unfold frs at hb ⊢
      rw [List.filterMap_cons]
      split
      · exact hb
      · exact List.mem_cons_of_mem _ hb
    refine ⟨k, ⟨L, o, e1, hb L ?_, e3, e4⟩, frames_base (fun b q => hb b (hm b q)) r⟩
    unfold frs
    rw [List.filterMap_cons, e1]
    exact List.mem_cons_self
section
variable {X : Cx} {pins : List (Addr × Obj)} {σ : L2.St} {H : Hp} {s : Shared}
/-- what is called may take the heap at hand as its base -/
theorem env0_new (I : Inv X pins σ H s) : Env0 X.prog X.w X.K X.mg (baseN s.heap H (frs X.stack)) X.A X.stack s H := by
  have e0 := I.env0
  have kb : ∀ b o, X.base.get? b = some o → (baseN s.heap H (frs X.stack)).get? b = some o := fun b o e => by
    obtain ⟨h1, h2⟩ := e0.bs b o e
    refine baseN_get h1 h2 fun hb => ?_
    have := (e0.funs.mem hb).1
    rw [e] at this
    cases this
  obtain ⟨mb, hb1, hb2⟩ := e0.mod.blt
  exact ⟨e0.frames, ⟨e0.mod.kin.keeps kb, e0.mod.glob.keeps kb, ⟨mb, hb1.keeps kb, hb2⟩, e0.mod.nolimit.keeps kb⟩, fun b o e => of_baseN e, Nat.le_of_eq ((PySem.W.hideAll_size _ _).trans (hidT_size _ _)), frames_base (fun b hb => baseN_frame hb) e0.funs, e0.frf, e0.hok, e0.bare⟩
/-- a def called by a promise over any base -/
theorem run_fnB {CX : CXT} {k : Nat} {f : Addr} {sp : Sp} {E : XK} {Q : VK} {us : List Value} {vs : List V} (F : FnR X.prog X.w X.K X.mg (baseN s.heap H (frs X.stack)) CX k f sp) (hr : Room k X.A) (hx : Passes CX X E) (I : Inv X pins σ H s) (r : Vals vs us) (h : sp vs H Q E) :
    codeAny (model X.prog X.w) X.A (.call (.ref f) ⟨us, []⟩) (fun r s' => match r with | .ok (.ret v) => EP X pins σ Q v s' | .ok _ => False | .error e => X.xe e s') s := by
  refine codeAny_mono (F X.A X.stack s H us vs Q E hr (env0_new I) r h) fun r s' hq => ?_
  match r, hq with
  | .error e, hq => exact hx pins σ H s e s' I hq
  | .ok (.ret u), hq => exact I.after hq
end
/-! ### the lambda's body -/
/-- one parameter, no other name of its own: captured ones and globals -/
structure LamP (sc scope : Scope) (x : Str) : Prop where
  kind : scope.kind = .function
  co : scope.isCoroutine = false
  gen : scope.isGenerator = false
  par : scope.names.lookup x = some .local
  own : ∀ y ∈ scope.names, y.2 ≠ .cell
  free : ∀ y ∈ scope.names, y.2 = .free → sc.names.lookup y.1 = some .cell ∨ sc.names.lookup y.1 = some .free
def lamPB (sc scope : Scope) (x : Str) : Bool :=
  decide (scope.kind = .function) && (!scope.isCoroutine && (!scope.isGenerator && (decide (scope.names.lookup x = some .local) && scope.names.all fun y => !decide (y.2 = .cell) && (!decide (y.2 = .free) || (decide (sc.names.lookup y.1 = some .cell) || decide (sc.names.lookup y.1 = some .free))))))
theorem lamP_by {sc scope : Scope} {x : Str} (h : lamPB sc scope x = true) : LamP sc scope x := by
  unfold lamPB at h
  obtain ⟨h1, h⟩ := ba h
  obtain ⟨h2, h⟩ := ba h
  obtain ⟨h3, h⟩ := ba h
  obtain ⟨h4, h5⟩ := ba h
  refine ⟨of_decide_eq_true h1, by simpa using h2, by simpa using h3, of_decide_eq_true h4, fun y hy => ?_, fun y hy e => ?_⟩
  · have := (ba (List.all_eq_true.mp h5 y hy)).1
    simpa using this
  · have := (ba (List.all_eq_true.mp h5 y hy)).2
    rw [decide_eq_true e, Bool.not_true, Bool.false_or, Bool.or_eq_true] at this
    exact this.imp of_decide_eq_true of_decide_eq_true
/-- the context of the lambda's body -/
def lamC (X : Cx) (base : Heap) (N : List Str) (A : Around) (outer : List Env) (s : Shared) (H : Hp) (E : XK) (scope : Scope) (f c' : Addr) : Cx where
  prog := X.prog
  w := X.w
  K := X.K
  mg := X.mg
  base := base
  A := A.deeper (lamEnv X scope s.heap.objs.size f c')
  N := N
  s_0 := s
  H_0 := H
  env := lamEnv X scope s.heap.objs.size f c'
  outer := outer
  stack := lamEnv X scope s.heap.objs.size f c' :: outer
  ex := []
  fn := fun _ => false
  calm := true
  pn := []
  xe := fun e s' => wpAny (model X.prog X.w) (A.deeper (lamEnv X scope s.heap.objs.size f c')) (leaving (lamEnv X scope s.heap.objs.size f c') e) (fun _ s'' => L2.CX X.prog X.w outer H s E e s'') (fun e' s'' => L2.CX X.prog X.w outer H s E e' s'') s'
/-- what the lambda knows of its maker's names -/
def capS (σ : L2.St) (caps : List Nat) : L2.St := caps.map fun i => (σ[i]?).getD none
section
variable {X : Cx} {pins : List (Addr × Obj)} {σ : L2.St} {H HZ : Hp} {s s1 : Shared}
theorem lam_begin {A : Around} {outer : List Env} {E : XK} {scope : Scope} {f c' : Addr} {h₁ : Heap} {tk : Nat} {x : Str} {cs : List Str} {caps : List Nat} {u : V} {uv : Value} (I : Inv X pins σ H s) (hfn : ∀ y, X.fn y = true) (L : LamP X.env.scope scope x)
    (hcs : ∀ (j : Nat) (y : Str) (i : Nat), cs[j]? = some y → caps[j]? = some i → X.N[i]? = some y) (hl : cs.length = caps.length) (hfr : ∀ y ∈ cs, scope.names.lookup y = some .free)
    (e0 : Env0 X.prog X.w X.K X.mg (baseN s.heap H (frs X.stack)) A outer s1 HZ) (hd : A.handled = none) (ru : RelV u uv)
    (hns : h₁.Ns s1.heap.objs.size fun y => ([(x, uv)] : List (Str × Value)).reverse.lookup y) (kp : ∀ b o, s1.heap.get? b = some o → h₁.get? b = some o) :
    Inv (lamC X (baseN s.heap H (frs X.stack)) (x :: cs) A outer s1 HZ E scope f c') [] (some u :: capS σ caps) HZ { s1 with heap := h₁, toks := tk } := by
  have hfree : ∀ y ∈ scope.names, y.2 = .free → ∃ c, X.env.cells.lookup y.1 = some c := fun y hy e => by
    rcases L.free y hy e with k | k
    · exact I.ok.has _ (.inl k)
    · exact I.ok.has _ (.inr k)
  have cm : ∀ {y c}, (cloFrom X.env.cells scope.names []).lookup y = some c → X.env.cells.lookup y = some c := fun {y c} e => by
    rcases cloFrom_mem (PySem.mem_of_lookup e) with hm | ⟨h1, h2⟩
    · cases hm
    · obtain ⟨c1, hc⟩ := hfree _ h1 rfl
      have hc : X.env.cells.lookup y = some c1 := hc
      have e2 : c = c1 := by
        rw [h2, hc] <;> rfl
      rw [e2]
      exact hc
  have look : ∀ {y}, scope.names.lookup y = some .free → ∃ c, (cloFrom X.env.cells scope.names []).lookup y = some c := fun {y} hl => by
    have hy : (y, NameKind.free) ∈ scope.names := PySem.mem_of_lookup hl
    exact mem_lookup (cloFrom_has (cells := X.env.cells) (acc := []) hy)
  -- the cells stand as they stood
  have cellB : ∀ {y : Str} {c : Addr} {v : Option Value}, X.env.cells.lookup y = some c → s.heap.IsCell c v → h₁.IsCell c v ∧ HZ c = none := fun {y c v} ey ⟨o, ho, hdo⟩ => by
    have nf : c ∉ frs X.stack := fun hb => by
      have ge := I.ok.cab y c (hfn y) ey
      rcases List.mem_cons.mp (I.stkSub _ hb) with z | z
      · exact I.cne y c ey z
      · obtain ⟨_, o', ho', _⟩ := I.ok.funs.mem z
        exact Nat.lt_irrefl _ (Nat.lt_of_lt_of_le (Heap.lt_size ho') ge)
    obtain ⟨q1, q2⟩ := e0.bs c o (baseN_get ho (I.freeC y c ey) nf)
    exact ⟨⟨o, kp _ _ q1, hdo⟩, q2⟩
  have noA : ∀ b : Addr, b ∉ (lamC X (baseN s.heap H (frs X.stack)) (x :: cs) A outer s1 HZ E scope f c').ex := fun b z => absurd (show b ∈ ([] : List Addr) from z) (by simp)
  refine ⟨⟨e0.mod, L.kind, rfl, rfl, Nat.le_refl _, fun y z c e1 e2 => I.ok.inj y z c (cm e1) (cm e2), fun y hy => ?_, fun y c z _ => ?_, fun _ => hd, Around.frames_deeper e0.frames, .inr ⟨rfl, rfl⟩, fun b z => absurd z (noA b), e0.bs, e0.bsz, fun b _ _ => noA b,
      fun b z => absurd z (noA b), e0.funs, e0.frf⟩,
    rfl, e0.bare, Un.kept kp, ⟨_, hns, fun i y v e1 e2 e3 => ?_⟩, fun y c e => ?_, e0.hok.fresh (Nat.le_refl _), fun y c e => ?_, fun q hq => absurd (show q ∈ ([] : List (Addr × Obj)) ++ [] from hq) (by simp), e0.hok.kept kp, ?_⟩
  · have hy : scope.names.lookup y = some .cell ∨ scope.names.lookup y = some .free := hy
    rcases hy with hy | hy
    · exact absurd rfl (L.own _ (PySem.mem_of_lookup hy))
    · exact look hy
  · have z : false = true := z
    cases z
  · have e1 : (x :: cs)[i]? = some y := e1
    have e2 : (some u :: capS σ caps)[i]? = some (some v) := e2
    cases i with
    | zero =>
      cases e1
      cases e2
      exact ⟨uv, ru, .inl ⟨L.par, by show List.lookup x [(x, uv)] = some uv; simp⟩⟩
    | succ j =>
      have e1 : cs[j]? = some y := e1
      have e2 : (capS σ caps)[j]? = some (some v) := e2
      have hj : j < caps.length := by
        rw [← hl]
        exact (List.getElem?_eq_some_iff.mp e1).1
      have ec : caps[j]? = some caps[j] := List.getElem?_eq_getElem hj
      generalize caps[j] = i at ec
      have hN := hcs j y i e1 ec
      have e3 : σ[i]? = some (some v) := by
        unfold capS at e2
        rw [List.getElem?_map, ec] at e2
        have e2 : (σ[i]?).getD none = some v := Option.some.inj e2
        cases q : σ[i]? with
        | none =>
          rw [q] at e2
          cases e2
        | some o =>
          rw [q] at e2
          have e2 : o = some v := e2
          rw [e2]
      have kf := hfr y (List.mem_of_getElem? e1)
      obtain ⟨m, hn, hlo⟩ := I.loc
      have hvis : Vis X.env.scope y := (L.free _ (PySem.mem_of_lookup kf) rfl).elim (fun k => .inr (.inl k)) (fun k => .inr (.inr k))
      obtain ⟨w', r, q⟩ := hlo i y v hN e3 hvis
      obtain ⟨c2, h2⟩ := look kf
      refine ⟨w', r, .inr ⟨.inr kf, c2, h2, ?_⟩⟩
      have c1 := cm h2
      rcases q with ⟨k', _⟩ | ⟨_, c3, e', z⟩
      · have k' : X.env.scope.names.lookup y = some .local := k'
        rcases L.free _ (PySem.mem_of_lookup kf) rfl with k2 | k2 <;> rw [show X.env.scope.names.lookup y = _ from k2] at k' <;> cases k'
      · rw [c1] at e'
        cases e'
        exact (cellB c1 z).1
  · obtain ⟨w', z⟩ := I.cell y c (cm e)
    exact ⟨w', (cellB (cm e) z).1⟩
  · obtain ⟨v, z⟩ := I.cell y c (cm e)
    exact (cellB (cm e) z).2
  · show (some u :: capS σ caps).length = (x :: cs).length
    unfold capS
    rw [List.length_cons, List.length_cons, List.length_map, hl]
/-- what a lambda promises -/
def spLam (tb : XK → TE) (σc : L2.St) (c' : Addr) (q : Str) : Sp := fun vs HZ Q E => ∃ u, vs = [u] ∧ HZ c' = some (CodeO c' q) ∧ tb E (some u :: σc) HZ Q
theorem lam_fnR {f c' : Addr} {pm ctv : Value} {params : Arguments} {body : Expr} {scope : Scope} {k : Nat} {x : Str} {cs : List Str} {caps : List Nat} {tb : XK → TE} (I : Inv X pins σ H s) (hfn : ∀ y, X.fn y = true) (L : LamP X.env.scope scope x)
    (hcs : ∀ (j : Nat) (y : Str) (i : Nat), cs[j]? = some y → caps[j]? = some i → X.N[i]? = some y) (hl : cs.length = caps.length) (hfr : ∀ y ∈ cs, scope.names.lookup y = some .free)
    (hf : s.heap.get? f = some (PySem.W.kla_obj "<lambda>" (X.env.qual ++ "<lambda>") params body scope (cloFrom X.env.cells scope.names []) pm c' ctv)) (hf0 : H f = none) (hf1 : f ∉ frs X.stack)
    (hbind : ∀ u : Value, bindArgs (PySem.W.kla_fn "<lambda>" (X.env.qual ++ "<lambda>") params body scope (cloFrom X.env.cells scope.names []) pm (.ref c') ctv) ⟨[u], []⟩ = pure [(x, u)])
    (hbody : ∀ (A : Around) (outer : List Env) (s1 : Shared) (H1 : Hp) (E : XK), Room k (A.deeper (lamEnv X scope s1.heap.objs.size f c')) → PE (lamC X (baseN s.heap H (frs X.stack)) (x :: cs) A outer s1 H1 E scope f c') body (tb E)) :
    FnR X.prog X.w X.K X.mg (baseN s.heap H (frs X.stack)) (L2.CX X.prog X.w) (k + 1) f (spLam tb (capS σ caps) c' (X.env.qual ++ "<lambda>")) := by
  intro A outer s1 HZ us vs Q E hr e0 r hsp
  obtain ⟨u, rfl, hc, ht⟩ := hsp
  obtain ⟨uv, rfl, ru⟩ := vals1 r
  have of1 := (e0.bs f _ (baseN_get hf hf0 hf1)).1
  obtain ⟨⟨oc, vs, t, hoc, hdc, hvc⟩, _, _⟩ := e0.hok c' _ hc
  have lim : s1.heap.NoLimit := e0.mod.nolimit.keeps fun b o e => (e0.bs b o e).1
  refine PySem.W.kla_callFunE hr.depth of1 rfl L.co L.gen rfl ⟨c', oc, vs, t, rfl, hoc, hdc, hvc⟩ ?_
  rw [hbind]
  refine wpAny_pure (wpAny_newFunctionEnv (fun y hy => L.own y hy) (fun y hy => ?_) (fun h₁ hns hsb => ⟨lim.fresh _ hsb, ?_⟩) L.kind)
  · rw [List.mem_singleton.mp hy]
    exact L.par
  show codeAny _ _ (.expr body (lamEnv X scope s1.heap.objs.size f c')) _ _
  have kp : ∀ b o, s1.heap.get? b = some o → h₁.get? b = some o := fun b o e => hsb.extBut b o (Nat.ne_of_lt (Heap.lt_size e)) (Heap.get?_push_of_some _ e)
  have J : Inv (lamC X (baseN s.heap H (frs X.stack)) (x :: cs) A outer s1 HZ E scope f c') [] (some u :: capS σ caps) HZ { s1 with heap := h₁, toks := s1.toks + ([(x, uv)] : List (Str × Value)).length } :=
    lam_begin I hfn L hcs hl hfr e0 hr.hd ru hns kp
  refine PySem.W.kla_codeExpr (wpAny_mono ((hbody _ _ s1 HZ E (hr.deeper _)).run [] _ _ HZ Q J ht) (fun v s' hq => ?_) fun e s' hq => hq)
  obtain ⟨w', H', J', rv, q⟩ := hq
  exact ⟨w', H', J'.os, J'.bare, J'.base, J'.hok, rv, q⟩
end
/-! ### calls -/
section
variable {X : Cx} {CX : CXT} {k i : Nat} {f : Addr} {sp : Sp} {E : XK} {x : Str} {p pos : Pos} {e : Expr} {es : List Expr} {t : TA}
/-- x(e, ..), x a local name that holds a function of the base -/
theorem pe_callF (hN : X.N[i]? = some x) (hv : Vis X.env.scope x) (hf : PySem.W.FnAt f X.base) (F : FnR X.prog X.w X.K X.mg X.base CX k f sp) (hr : Room k X.A) (hx : Passes CX X E) (ha : PA X (e :: es) t)
    (hd : (x == ("__debug__" : Str)) = false := by decide) (hcd : (x == ("__classdict__" : Str)) = false := by decide)
    (he : starEach (e :: es) X.env = (false, eval e X.env) :: starEach es X.env := by rfl) (hpl : (backTo pos (starEach es X.env)).any (·.1) = false := by rfl) :
    PE X (.Call (.Name x p) (e :: es) [] pos) (fun σ H Q => σ[i]? = some (some (.ref f)) ∧ t σ H fun vs H1 => sp vs H1 Q E) := by
  have at_ : ∀ {pins σ H s}, Inv X pins σ H s → PySem.W.FnAt f s.heap := fun I => by
    obtain ⟨oc, od, fd, sl, h⟩ := hf
    exact ⟨oc, od, fd, sl, I.bk _ _ h⟩
  refine ⟨fun pins s σ H Q I h => wpAny_Call_Name_kw (thn ((pe_var (pos := p) (i := i) hN hv hd hcd).run pins s σ H (fun v H1 => v = .ref f ∧ H1 = H) I ⟨.ref f, h.1, rfl, rfl⟩) fun u s1 ⟨v, H1, I1, r1, ev, eH⟩ => ?_)⟩
  subst ev eH
  cases r1
  refine PySem.W.callWith_F (first := []) (at_ I1) (thn (ha.run pos pins s1 σ _ _ I1 h.2) fun us s2 ⟨vs, H2, I2, r, q⟩ => ⟨at_ I2, ?_⟩) he hpl
  exact wpAny_call (run_fnR F hr hx I2 r q)
end
section
variable {X : Cx} {CX : CXT} {kc k : Nat} {C g c P : Addr} {spB : Heap → Sp} {E : L2.St → XK} {fe : Expr} {tf : TE} {T : List (Addr × Str)} {params : Arguments} {body : Expr} {scope : Scope} {tb : XK → TE} {lpos pos : Pos} {x : Str} {cs : List Str} {caps : List Nat}
def tCallOL (P : Program) (w : World) (K : Fg) (mg : Str → Option Value) (C : Addr) (k : Nat) (T : List (Addr × Str)) (q : Str) (tb : XK → TE) (caps : List Nat) (spB : Heap → Sp) (E : L2.St → XK) (tf : TE) : TE := fun σ H Q => tf σ H fun y H0 => ∃ a, y = .ref a ∧ Tabs T H0 ∧ ∀ (f c' : Addr) (H1 : Hp) (base' : Heap), ExtN H0 H1 → Tabs T H1 → H1 c' = some (CodeO c' q) → PySem.W.FnAt f base' →
  FnR P w K mg base' (L2.CX P w) (k + 1) f (spLam tb (capS σ caps) c' q) → (∃ dx fs, H1 a = some (.ins C dx fs)) ∧ spB base' [.ref a, .ref f] H1 Q (E σ)
/-- o(lambda x: ..), o an instance of C whose __call__ is promised over any base -/
theorem pe_callOL {Pr : Program} {wo : World} {K : Fg} {mg : Str → Option Value} {qn : Str} (hf : PE X fe tf) (co : StX.CallO X.K C g) (F : ∀ base' : Heap, FnR X.prog X.w X.K X.mg base' CX kc g (spB base')) (hr : Room kc X.A) (hx : ∀ σ, PassesAt CX X σ (E σ))
    (TB : TabB X.base X.mg c P) (hcode : X.env.code = .ref c) (hmT : (P, X.env.qual ++ "<lambda>") ∈ T) (hu : ∀ p ∈ T, p.1 = P → p.2 = X.env.qual ++ "<lambda>") (hdef : defaultsOf params X.env = ([], []))
    (hfn : ∀ y, X.fn y = true) (L : LamP X.env.scope scope x) (hcs : ∀ (j : Nat) (y : Str) (i : Nat), cs[j]? = some y → caps[j]? = some i → X.N[i]? = some y) (hl : cs.length = caps.length) (hfr : ∀ y ∈ cs, scope.names.lookup y = some .free)
    (hbind : ∀ (u : Value) (q : Str) (cl : List (Str × Addr)) (pm cv ctv : Value), bindArgs (PySem.W.kla_fn "<lambda>" q params body scope cl pm cv ctv) ⟨[u], []⟩ = pure [(x, u)])
    (hbody : ∀ (base : Heap) (A : Around) (outer : List Env) (s1 : Shared) (H1 : Hp) (E : XK) (f c' : Addr), Room k (A.deeper (lamEnv X scope s1.heap.objs.size f c')) → PE (lamC X base (x :: cs) A outer s1 H1 E scope f c') body (tb E))
    (ht : eval (.Call fe [.Lambda params body scope lpos] [] pos) X.env = (do callWith pos (← eval fe X.env) [] (backTo pos (starEach [.Lambda params body scope lpos] X.env)) (backToKw pos (keywordEach [] X.env))) := by rfl) (hP : X.prog = Pr := by rfl) (hW : X.w = wo := by rfl) (hK : X.K = K := by rfl) (hM : X.mg = mg := by rfl) (hQ : X.env.qual ++ "<lambda>" = qn := by rfl) :
    PE X (.Call fe [.Lambda params body scope lpos] [] pos) (tCallOL Pr wo K mg C k T qn tb caps spB E tf) := by
  subst hP hW hK hM hQ
  refine ⟨fun pins s σ H Q I h => ?_⟩
  refine Call_ (thn (hf.run pins s σ H _ I h) fun u s1 ⟨y, H1, I1, ry, a, ey, hT, q⟩ => ?_) ht
  subst ey
  obtain rfl : u = Value.ref a := ry
  have hfree : ∀ y ∈ scope.names, y.2 = .free → ∃ c, X.env.cells.lookup y.1 = some c := fun y hy e => by
    rcases L.free y hy e with k | k
    · exact I.ok.has _ (.inl k)
    · exact I.ok.has _ (.inr k)
  refine StX.callO_with (Calls.spliced_cons (lam_make2 I1 TB hcode hmT hu hT hdef hfree fun f c' pm ctv H2 s2 I2 eN T2 hf2 hf0 hf1 hco => Calls.spliced_nil ?_)) (by rfl) (by rfl)
  have hfa : PySem.W.FnAt f (baseN s2.heap H2 (frs X.stack)) := ⟨_, _, _, _, baseN_get hf2 hf0 hf1⟩
  have FL := lam_fnR I2 hfn L hcs hl hfr hf2 hf0 hf1 (fun u => hbind u _ _ _ _ _) (fun A outer s1 H1 E hr => hbody _ A outer s1 H1 E f c' hr)
  obtain ⟨hi, q2⟩ := q f c' H2 _ eN T2 hco hfa FL
  obtain ⟨ox, od, J, hd⟩ := StX.insC_at I2 (.inr hi)
  refine ⟨⟨C, ox, od, J, hd⟩, wpAny_call (PySem.W.kco_code I2.kIn J hd co.at_ co.fn co.fi ?_)⟩
  refine codeAny_mono (F _ X.A X.stack s2 H2 [.ref a, .ref f] [.ref a, .ref f] Q (E σ) hr (env0_new I2) (.cons rfl (.cons rfl .nil)) q2) fun r s' hq => ?_
  match r, hq with
  | .error e, hq => exact hx σ pins H2 s2 e s' I2 hq
  | .ok (.ret u), hq => exact I2.after hq
end
end Tw
/-! Tw: C(*e); d.update(e), both tracked. -/
namespace Tw
open PySem PySem.Spec PyProof PyProof.Rows L2 He
theorem u1 {k : Nat} {A : Around} (r : Room k A) : A.units + 1 < cLine := by
  have := r.un
  omega
section
variable {X : Cx} {CX : CXT} {k : Nat} {f C : Addr} {sp : Sp} {E : XK} {x : Str} {e : Expr} {te : TE} {p sp_ pos : Pos}
/-- C(*e) by a positional promise of its __init__ -/
theorem pe_makeSt (M : Mk X.K C f) (F : FnR X.prog X.w X.K X.mg X.base CX k f sp) (hr : Room (k + 1) X.A) (hg : Gl X x) (hm : X.mg x = some (.ref C)) (hx : Passes CX X E) (he : PE X e te) (hdb : (x == ("__debug__" : Str)) = false := by decide)
    (hst : starEach [.Starred e sp_] X.env = [(true, eval e X.env)] := by rfl) :
    PE X (.Call (.Name x p) [.Starred e sp_] [] pos) (fun σ H Q => te σ H fun y H1 => ∃ a xs, y = V.ref a ∧ (SqT X.K H1 a xs ∨ SqL X.K H1 a xs) ∧ ∀ x dx, H1 x = Option.none → H1 dx = Option.none → dx ≠ x →
      sp (V.ref x :: xs) (upd (upd H1 dx (.own x)) x (.ins C dx [])) (fun v H2 => v = .non ∧ Q (.ref x) H2) E) := by
  refine ⟨fun pins s σ H Q I h => ?_⟩
  refine wpAny_Call_Name_kw (ld_glob I hg hm ?_ hdb)
  refine PySem.W.callWith_S (h₀ := X.base) I.ok.mod.kin M.kp (thn (he.run pins s σ H _ I h) fun v s1 ⟨y, H1, I1, ry, a, xs, ey, hxs, q⟩ => ?_) hst
  subst ey
  obtain rfl : v = Value.ref a := ry
  exact StX.star_any I1 hxs fun us s2 I2 rv => ⟨I2.kIn, StX.run_makeR M F hr hx I2 rv q⟩
end
section
variable {X : Cx} {o e : Expr} {apos cpos : Pos} {td ty : TE} {pins : List (Addr × Obj)} {σ : L2.St} {H : Hp} {s : Shared} {a b : Addr} {kvs more : List (Key × V)} {A : Around} {E : Value → Shared → Prop}
theorem d_update {Q : Value → Shared → Prop} (I : Inv X pins σ H s) (e : H a = some (.dK kvs)) (e2 : H b = some (.dK more)) (hn : a ≠ b) (hz : kvs.length + more.length ≤ sizeLine) (h : ∀ s', Inv X pins σ (upd H a (.dK (mergeK kvs more))) s' → Q .none s') :
    wpAny (model X.prog X.w) A (call (.builtin "dict.update") [.ref a, .ref b]) Q E s := by
  obtain ⟨z, hd, vs, rel, dd⟩ := dk_of I.hok e
  obtain ⟨z2, hd2, vs2, rel2, dd2⟩ := dk_of I.hok e2
  refine call_meetsIn PySem.F.slot_dict_update dd.typeIs PySem.F.entry_dict_update (PySem.F.args_dict_update_2 _ _) (meets_dict_update (mixKind X.prog X.w) a b hn hd2) ⟨vs, vs2, dd, dd2, by rw [← rel.length, ← rel2.length]; exact hz, fun h' dd' _ hs => h _ ?_⟩
  have he : ∃ q, h'.get? a = some q := let ⟨q, _, _, hq, _⟩ := dd'; ⟨q, hq⟩
  exact d_write (t' := s.toks) I (by rw [e]; exact True.intro) hs he (dk_new (Nat.le_trans (length_mergeK _ _) hz) hd (KV.merge rel2 rel) dd')
/-- d.update(e) -/
def tDUpd (td ty : TE) : TE := fun σ H Q => td σ H fun x H1 => ∃ a, x = .ref a ∧ IsD H1 a ∧ ty σ H1 fun y H2 => ∃ b kvs more, y = .ref b ∧ a ≠ b ∧ H2 a = some (.dK kvs) ∧ H2 b = some (.dK more) ∧ kvs.length + more.length ≤ sizeLine ∧ Q .non (upd H2 a (.dK (mergeK kvs more)))
theorem pe_dupd (ho : PE X o td) (he : PE X e ty) (m : M1 X o "update" apos e cpos) : PE X (.Call (.Attribute o "update" apos) [e] [] cpos) (tDUpd td ty) := by
  refine ⟨fun pins s σ H Q I h => ?_⟩
  refine wpAny_Call_method m.base m.few m.line PySem.F.plainAttrs_dict PySem.F.slot_dict_update PySem.F.type_dict_update (thn (ho.run pins s σ H _ I h) fun u s1 ⟨x, H1, I1, rx, a, ex, d, q1⟩ => ?_)
  subst ex
  obtain rfl : u = Value.ref a := rx
  obtain ⟨t1, t2, _⟩ := isD_at I1 d
  refine ⟨t1, t2, ?_⟩
  rw [m.trees]
  refine Calls.callWith_builtin rfl (Calls.evalArgs_plain (Calls.spliced_cons (thn (he.run pins s1 σ H1 _ I1 q1) fun iv s2 ⟨y, H2, I2, ry, b, kvs, more, ey, hn, ea, eb, hz, q2⟩ => Calls.spliced_nil ?_)))
  subst ey
  obtain rfl : iv = Value.ref b := ry
  exact d_update I2 ea eb hn hz fun s3 I3 => ⟨.non, _, I3, rfl, q2⟩
end
theorem pi_tupK {X : Cx} (K : PySem.W.Frag) {tg l : Expr} {tl : TE} (hl : PE X l tl) (h : X.K = K := by rfl) : PI X tg l (iTup K tl) := by
  subst h
  exact pi_tup hl
theorem pg_tupK {X : Cx} (K : PySem.W.Frag) {es : List Expr} {k : Nat} {t : TGs} {n : Nat} {pos : Pos} (hc : X.calm = true) (h : PGs X es t) (hK : X.K = K := by rfl)
    (hn : (assignEach es X.env).length = n := by rfl) (hst : (assignEach es X.env).findIdx? (·.1) = none := by rfl) : PG X (.Tuple es k pos) (gTup K n t) := by
  subst hK
  exact pg_tup hc h hn hst
theorem call_tuple_ofK {X : Cx} (K : PySem.W.Frag) (h : X.K = K := by rfl) : CallR X (.type "tuple") (fun xs H Q => ∃ p ys, xs = [V.ref p] ∧ ((SqL K H p ys ∧ ∀ (l : Addr), H l = Option.none → Q (V.ref l) (upd H l (HO.tup ys))) ∨ SqT K H p ys ∧ Q (V.ref p) H)) := by
  subst h
  exact call_tuple_of
end Tw
namespace K04
open PySem PySem.Spec PyProof.Rows L2 He Tw
theorem lenK {X : Cx} (K : Fg) (h : X.K = K := by rfl) : CallR X (.builtin "len") (fun xs H Q => ∃ x n, xs = [x] ∧ LenV K x H n ∧ Q (.int n) H) := by
  subst h
  exact call_len
/-- a dict that is walked from now on -/
theorem pi_lock {X : Cx} {tg e : Expr} {wi : TI} (h : PI X tg e wi) : PI X tg e (fun σ H R => ∃ d u, H d = some u ∧ Mut (some u) ∧ ∀ od, wi σ (upd H d (.frz od u)) R) := by
  refine ⟨fun pins s σ H R I q => ?_⟩
  obtain ⟨d, u, hd, mu, q⟩ := q
  obtain ⟨od, I1⟩ := I.lock hd mu
  exact h.run pins s σ _ R I1 (q od)
theorem blk_cnt (r : Int) : ∀ {ys : List V} {ps : List (Int × Str)}, ys.length = ps.length → (blk ys ps r).length = cnt r ps
  | [], [], _ => rfl
  | [], _ :: _, h => nomatch h
  | _ :: _, [], h => nomatch h
  | y :: ys, p :: ps, h => by
    have ih := blk_cnt r (ys := ys) (ps := ps) (Nat.succ.inj h)
    by_cases e : p.1 = r
    · rw [show blk (y :: ys) (p :: ps) r = y :: blk ys ps r from by rw [blk]; exact if_pos e, List.length_cons, ih]
      unfold cnt at_
      simp [e]
    · rw [show blk (y :: ys) (p :: ps) r = blk ys ps r from by rw [blk]; exact if_neg e, ih]
      unfold cnt at_
      simp [e]
abbrev s_blk : Stmt := inClass (topS 25) 13
abbrev N_blk : List Str := ["self", "found", "rank"]
theorem gs_blk : GScope N_blk ["self"] (defScope s_blk) := ⟨rfl, rfl, rfl, by decide +kernel, rfl, by decide +kernel, by decide +kernel⟩
/-- where the list of a rank stands -/
def lof (kvs : List (Key × V)) (r : Int) : Addr := match valV kvs (Sum.inl r) with | some (.ref l) => l | _ => 0
theorem lof_eq {kvs : List (Key × V)} {r : Int} {l : Addr} (h : valV kvs (Sum.inl r) = some (.ref l)) : lof kvs r = l := by unfold lof; rw [h]
/-- the i-th block -/
def rtB (ps : List (Int × Str)) : Nat → List V → Prop := fun i xs => ∃ r, (fsts (rk ps))[i]? = some r ∧ xs = [.int r, .int (cnt r ps : Nat)]
def spBlk (K : Fg) : SpW := fun vs H J n => ∃ (a : Addr) (ys : List V) (ps : List (Int × Str)), vs = [.ref a] ∧ ps.length ≤ 900 ∧ n = (fsts (rk ps)).length ∧ J = Tw.Jt n (fun H => RowAt K H a ys ∧ Its K H ys ps) (rtB ps)
section
variable {P : Program} {w : World} {K : Fg} {mg : Str → Option Value} {base : Heap}
theorem ok_blk {f fB : Addr} {fd fdB : FuncData} (F : FnP K "blocks" "Row.blocks" s_blk f fd) (FB : FnP K "by_rank" "by_rank" s_by fB fdB) (gB : mg "by_rank" = some (.ref fB)) (T : Txt K mg) : FnW P w K mg base 2 f fd ["self"] (spBlk K) := by
  have zlen : mg "len" = none := T.bl (by decide +kernel)
  have GB : FnOk P w K mg base CX0 1 fB fdB ["items"] (spBy K) := ok_by FB T
  have bB : Binds K fdB ["items"] [] := FB.bindsN fun _ _ _ _ _ _ us hl => match us, hl with | [_], _ => rfl
  obtain ⟨oc, od, dV, kV', doc, pm, an, cdv, ct, osl, rfl, lk, hcd, _, _⟩ := F.ex
  refine gen_of lk hcd gs_blk (fun _ => rfl) (by decide +kernel) (fun vs H J n h => ?_) fun stk H vs J n h L hb hf ge lo hsp => ?_
  · obtain ⟨a, ys, ps, rfl, _⟩ := h
    rfl
  · obtain ⟨a, ys, ps, rfl, hl, rfl, rfl⟩ := hsp
    apply ready_first (env := envOfC "Row.blocks" (defScope s_blk) L f cdv) (N := N_blk)
    case h1 => exact fun A s M hr => ps_set (i := 1) gs_blk.nd rfl (Or.inl rfl) (pe_call (E := E0) GB (hr.deeper _) rfl gB FB.kp bB .nil pass0 (pa_cons (fldK K (pv 0)) pa_nil))
    case hi => exact fun A s M hr => pi_lock (pi_keys (pv 1))
    case hg => exact fun A s M => pg_name (i := 2) gs_blk.nd rfl (Or.inl rfl)
    case he => exact fun A s M hr => pe_tupN (pa_cons (pv 2) (pa_cons (pe_callB (lenK K) (by rfl) zlen (by decide +kernel) (pa_cons (pe_dget (u1 (hr.deeper _)) (pv 1) (pv 2) (fun _ _ => rfl)) pa_nil)) pa_nil))
    case hs => exact fun _ => rfl
    case hco => rfl
    case hin => rfl
    case Z => exact ⟨ge, hb, hf, List.mem_cons_self, fun b hb => by rw [List.mem_singleton.mp hb]; exact Nat.le_refl _, lo, rfl, fun b u e => nomatch e⟩
    intro H M hP hM
    have hll : ys.length = ps.length := its_len hP.2
    obtain ⟨⟨dx, t, ha, ht⟩, its⟩ := hP
    have kL : ∀ (kvs : List (Key × V)), kvs.map Prod.fst = (fsts (rk ps)).map Sum.inl → kvs.length = (fsts (rk ps)).length := fun kvs e => by
      have := congrArg List.length e
      rwa [List.length_map, List.length_map] at this
    refine ⟨_, rfl, a, _, dx, _, _, rfl, hM _ _ ha, T.clsR, T.naR, rfl, t, ys, ps, rfl, SqT.of (hM _ _ ht), its.same hM, hl, fun d G1 kvs hd s1 G => ?_⟩
    dsimp only [gName]
    have dn : ∀ l, M l ≠ none → l ≠ d := fun l q z => q (by rw [z]; exact hd)
    refine ⟨d, _, G.at_, trivial, fun od => ⟨_, rfl, d, od, rfl, .inl ⟨kvs, upd_same, ?_, d :: (fsts (rk ps)).map (lof kvs), fun i σ G' => ∃ v : Option V, σ = [some (.ref a), some (.ref d), v] ∧ G' d = some (.frz od (.dK kvs)) ∧ ∀ r ∈ rk ps, ∃ l, valV kvs (Sum.inl r) = some (.ref l) ∧ G' l = some (.lst (blk ys ps r)),
      ⟨fun i σ G' ⟨v, _, h1, h2⟩ b hb => ?_, fun i σ G' G2 ⟨v, h0, h1, h2⟩ hd' => ?_, fun i σ G' hi ⟨v, h0, h1, h2⟩ => ?_, fun σ G' ⟨v, h0, h1, h2⟩ => ?_, fun i G' x G2 hy => ?_⟩, ⟨none, rfl, upd_same, fun r hr => ?_⟩, fun b hb => ?_⟩⟩⟩
    · exact fun b o e => by rw [upd_ne (dn b (by rw [e]; simp))]; exact s1 b o e
    · rcases List.mem_cons.mp hb with rfl | hb
      · exact ⟨_, h1, trivial⟩
      · obtain ⟨r, hr, rfl⟩ := List.mem_map.mp hb
        obtain ⟨l, e1, e2⟩ := h2 r (mem_fsts.mp hr)
        rw [lof_eq e1]
        exact ⟨_, e2, trivial⟩
    · refine ⟨v, h0, (hd' d List.mem_cons_self).trans h1, fun r hr => ?_⟩
      obtain ⟨l, e1, e2⟩ := h2 r hr
      refine ⟨l, e1, (hd' l (List.mem_cons_of_mem _ (List.mem_map.mpr ⟨r, mem_fsts.mpr hr, lof_eq e1⟩))).trans e2⟩
    · refine ⟨⟨h1, by rw [kL kvs G.keys]; exact hi⟩, fun x G2 ⟨hG, kk, vv, hk, hx⟩ => ?_⟩
      subst hG
      obtain ⟨r, hr⟩ : ∃ r, (fsts (rk ps))[i]? = some r := ⟨_, List.getElem?_eq_getElem hi⟩
      have ek : kk = Sum.inl r := by
        have q := congrArg (fun l => l[i]?) G.keys
        simp only [List.getElem?_map, hk, hr, Option.map_some] at q
        exact Option.some.inj q
      subst ek
      have hm : r ∈ rk ps := mem_fsts.mp (List.mem_of_getElem? hr)
      obtain ⟨l, e1, e2⟩ := h2 r hm
      rw [h0, hx]
      dsimp only [gName]
      refine ⟨_, rfl, _, rfl, _, rfl, d, .ref l, rfl, .inl ⟨kvs, Sum.inl r, .inr ⟨od, h1⟩, rfl, e1.symm⟩, .ref l, (blk ys ps r).length, rfl, .inl ⟨_, SqL.of e2, rfl⟩, sz1000 (by show 2 ≤ 1000; decide), fun T0 G3 hT s3 g3 => ⟨⟨some (.int r), rfl, s3 _ _ h1, fun r' hr' => ?_⟩, s3, T0, _, rfl, hT, g3, r, hr, ?_⟩⟩
      · obtain ⟨l', q1, q2⟩ := h2 r' hr'
        exact ⟨l', q1, s3 _ _ q2⟩
      · rw [blk_cnt r hll]
        rfl
    · exact ⟨h1, by rw [kL kvs G.keys]; exact Nat.le_refl _⟩
    · rw [hy.1]; exact Same.refl _
    · obtain ⟨l, e1, e2, _⟩ := G.there r hr
      refine ⟨l, e1, ?_⟩
      rw [upd_ne]
      · exact e2
      · rintro rfl
        have := G.at_
        rw [e2] at this
        cases this
    · rcases List.mem_cons.mp hb with rfl | hb
      · exact hd
      · obtain ⟨r, hr, rfl⟩ := List.mem_map.mp hb
        obtain ⟨l, e1, _, e3⟩ := G.there r (mem_fsts.mp hr)
        rw [lof_eq e1]
        exact e3
end
end K04
namespace K04
open PySem PySem.Spec PyProof.Rows L2 He Tw
abbrev s_wit : Stmt := inClass (topS 25) 14
abbrev N_wit : List Str := ["self", "other", "rank", "many"]
theorem sc_wit : FnScope N_wit ["self", "other"] (defScope s_wit) := ⟨rfl, rfl, rfl, by decide +kernel, rfl, by decide +kernel, by decide +kernel⟩
theorem inB_fsts (ps us : List (Int × Str)) : ((fsts (rk ps)).map fun r => decide (cnt r ps ≤ cnt r us)).all id = inB ps us := by
  unfold inB
  rw [Bool.eq_iff_iff, List.all_map, List.all_eq_true, List.all_eq_true]
  constructor
  · intro h q hq
    exact h q.1 (mem_fsts.mpr (List.mem_map.mpr ⟨q, hq, rfl⟩))
  · intro h r hr
    obtain ⟨q, hq, rfl⟩ := List.mem_map.mp (mem_fsts.mp hr)
    exact h q hq
theorem fsts_len (xs : List Int) : (fsts xs).length ≤ xs.length := by
  have h : ∀ (xs acc : List Int), (xs.foldl (fun acc r => if r ∈ acc then acc else acc ++ [r]) acc).length ≤ acc.length + xs.length := by
    intro xs
    induction xs with
    | nil => intro acc; simp
    | cons x xs ih =>
      intro acc
      rw [List.foldl_cons, List.length_cons]
      have := ih (if x ∈ acc then acc else acc ++ [x])
      split at this
      · rename_i hm
        rw [if_pos hm]; omega
      · rename_i hm
        rw [if_neg hm]
        rw [List.length_append, List.length_singleton] at this
        omega
  have q := h xs []
  rw [List.length_nil, Nat.zero_add] at q
  exact q
section
variable {P : Program} {w : World} {K : Fg} {mg : Str → Option Value} {base : Heap}
theorem ok_within {f fB : Addr} {fd fdB fdK fdN fdL : FuncData} (F : FnP K "within" "Row.within" s_wit f fd) (FL : FnP K "blocks" "Row.blocks" s_blk (ma K (ga K "Row") "blocks") fdL) (FB : FnP K "by_rank" "by_rank" s_by fB fdB) (gB : mg "by_rank" = some (.ref fB))
    (FN : FnP K "number" "Row.number" s_numr (ma K (ga K "Row") "number") fdN) (FK : FnP K "ranks" "Row.ranks" s_rks (ma K (ga K "Row") "ranks") fdK) (T : Txt K mg) : FnOk P w K mg base CX0 9 f fd ["self", "other"] (spWithin K) := by
  have zall : mg "all" = none := T.bl (by decide +kernel)
  have GL : FnW P w K mg base 2 _ fdL ["self"] (spBlk K) := ok_blk FL FB gB T
  have GN : FnOk P w K mg base CX0 2 _ fdN ["self", "rank"] (spNumR K) := ok_numr FN FK T
  have bL : Binds K fdL ["self"] [] := FL.bindsN fun _ _ _ _ _ _ us hl => match us, hl with | [_], _ => rfl
  have bN : Binds K fdN ["self", "rank"] [] := FN.bindsN fun _ _ _ _ _ _ us hl => match us, hl with | [_, _], _ => rfl
  have mL := T.mtR2 (m := "blocks") (by decide +kernel)
  have mN := T.mtR2 (m := "number") (by decide +kernel)
  refine F.ok sc_wit (fun vs H Q E h => ?_) (fun cdv A outer s H vs Q E hr h => ?_)
  · obtain ⟨a, b, ys, zs, ps, us, rfl, _⟩ := h
    rfl
  · obtain ⟨a, b, ys, zs, ps, us, rfl, hA, iA, nA, _, hB, iB, nB, _, k⟩ := h
    refine ⟨_, PSs.nox (pss_one (ps_ret (pe_callB (cr_all rfl) (by rfl) zall (by decide +kernel) (pa_cons (pe_lcG (k := 3) (own := [("rank", 2), ("many", 3)]) (g := gTup K 2 (gCons (gName 2) (gCons (gName 3) gNil))) (tt := tYes) (by rfl) (hr.mono (by decide)) sc_wit.nd
      (pig_meth0 (pv 0) T.clsR mL GL (hr.mono (by decide)) bL .nil) (blkOk_by (own := [("rank", 2), ("many", 3)]) (N := N_wit) (sc := defScope s_wit) (by decide +kernel))
      (fun _ _ _ _ _ => pg_tup (by rfl) (pgs_cons (pg_name (i := 2) sc_wit.nd rfl (Or.inl rfl)) (pgs_cons (pg_name (i := 3) sc_wit.nd rfl (Or.inl rfl)) pgs_nil))) (fun _ _ _ _ _ => pts_nil)
      (fun _ _ _ _ _ => pe_cmpR op_le (pv 3) (pe_meth (E := E0) (pv 1) T.clsR mN GN (hr.mono (by decide)) bN .nil pass0 (pa_cons (pv 2) pa_nil)) (nomark _))) pa_nil)))), ?_⟩
    obtain ⟨da, ta, ha, hta⟩ := id hA
    have hlp : ys.length = ps.length := its_len iA
    refine ⟨_, rfl, a, da, _, _, _, rfl, ha, rfl, jt_go, jt_st, ⟨a, ys, ps, rfl, by omega, rfl, rfl⟩, fun D hD => lcG_jt (fun i H' => Same H H' ∧ H' D = some (.lst (((fsts (rk ps)).take i).map fun r => V.bl (decide (cnt r ps ≤ cnt r us))))) ⟨same_new hD, upd_same⟩ (fun H' q => ⟨hA.same q.1, iA.same q.1⟩) ?_ ?_⟩
    · rintro i T0 xs H2 H3 hi ⟨s2, g2⟩ s3 hT gT ⟨r, hr', rfl⟩
      have s23 := s2.trans s3
      obtain ⟨db, tb, hb, htb⟩ := id hB
      refine ⟨T0, _, rfl, SqT.of gT, rfl, _, _, rfl, _, _, rfl, rfl, rfl, _, rfl, _, rfl, b, db, _, rfl, s23 _ _ hb, rfl, _, rfl, b, zs, us, r, rfl, hB.same s23, iB.same s23, nB, fun H4 s4 => ⟨_, _, rfl, rfl, ?_⟩⟩
      have g4 := s4 _ _ (s3 _ _ g2)
      refine ⟨_, g4, ?_, same_upd (s23.trans s4) hD, ?_⟩
      · rw [List.length_map]
        exact Nat.lt_of_le_of_lt (List.length_take_le' _ _) (Nat.lt_of_le_of_lt (fsts_len _) (Nat.lt_of_le_of_lt (show (rk ps).length ≤ 900 by unfold rk; rw [List.length_map]; omega) (by decide)))
      · rw [upd_same, List.take_add_one, hr', Option.toList_some, List.map_append]
        simp
    · rintro H2 H3 ⟨s2, g2⟩ s3
      have g3 := s3 _ _ g2
      rw [List.take_of_length_le (Nat.le_refl _)] at g3
      refine ⟨D, (fsts (rk ps)).map fun r => decide (cnt r ps ≤ cnt r us), rfl, SqL.of (by rw [List.map_map]; exact g3), ?_⟩
      rw [inB_fsts]
      exact k H3 (s2.trans s3)
end
end K04
namespace K04
open PySem PySem.Spec PyProof.Rows L2 He Tw
abbrev s_heard : Stmt := topS 35
abbrev N_heard : List Str := ["_law_ask", "_law_caught", "_law_found", "error"]
theorem sc_heard : FnScope N_heard ["_law_ask"] (defScope s_heard) := ⟨rfl, rfl, rfl, by decide +kernel, rfl, by decide +kernel, by decide +kernel⟩
/-- the word that _law_heard tells of an error -/
def wordOf (x : Str) : Str := if x = "BadItem" then "item" else if x = "BadPlace" then "place" else if x = "Disordered" then "order" else "many"
def Eh (K : Fg) (Q : VK) : XK := fun cls d H => ∃ (e : Str × Nat × Str) (v : Int) (dd : Addr), e ∈ errs ∧ cls = .ref (ga K e.1) ∧ d = some dd ∧ H dd = some (.xd [(e.2.2, .int v)]) ∧ ∀ (q : Addr) (H' : Hp), H q = none → Same H H' → H' q = some (.tup [.str (wordOf e.1), .int v]) → Q (.ref q) H'
def TTh (K : Fg) : (XK → Hp → VK → Prop) → Hp → VK → Prop := fun tl H Q => ∀ (E' : XK) (Q' : VK), (∀ cls d H', Eh K Q cls d H' → E' cls d H') → (∀ v H1, (∀ (q : Addr) (H' : Hp), H1 q = none → Same H1 H' → H' q = some (.lst [v]) → Q (.ref q) H') → Q' v H1) → tl E' H Q'
theorem Txt.kitT {K : Fg} {mg : Str → Option Value} (T : Txt K mg) {e : Str × Nat × Str} (h : e ∈ errs) : PySem.W.kitOne K (.ref (ga K e.1)) (.ref (ga K e.1)) = some true := by
  rw [T.kit h h, decide_eq_true rfl]
theorem Txt.kitF {K : Fg} {mg : Str → Option Value} (T : Txt K mg) {e d : Str × Nat × Str} (h : e ∈ errs) (g : d ∈ errs) (ne : e.1 ≠ d.1) : PySem.W.kitOne K (.ref (ga K e.1)) (.ref (ga K d.1)) = some false := by
  rw [T.kit h g, decide_eq_false ne]
theorem four {α : Type} {l : List α} (h : l.length = 4) : ∃ a b c d, l = [a, b, c, d] := match l, h with
  | [a, b, c, d], _ => ⟨a, b, c, d, rfl⟩
theorem heard_gives {X : Cx} {g : Addr} {cdg : Value} {q : Str} (T : Txt X.K X.mg) (hu : True) : LamX.GivesTo X N_heard "_law_heard" (defScope s_heard) g cdg (defBody s_heard) "_law_ask" q (TTh X.K) := by
  have zisi : X.mg "isinstance" = none := T.bl (by decide +kernel)
  have gH : X.mg "HeadsError" = some (.ref (ga X.K "HeadsError")) := T.cl (by decide +kernel)
  have gI : X.mg "BadItem" = some (.ref (ga X.K "BadItem")) := T.cl (by decide +kernel)
  have gP : X.mg "BadPlace" = some (.ref (ga X.K "BadPlace")) := T.cl (by decide +kernel)
  have gD : X.mg "Disordered" = some (.ref (ga X.K "Disordered")) := T.cl (by decide +kernel)
  have gM : X.mg "TooMany" = some (.ref (ga X.K "TooMany")) := T.cl (by decide +kernel)
  intro f c' s H Q tl act hc h
  have nd : N_heard.Nodup := sc_heard.nd
  refine ⟨_, (pss_cons (ps_set (i := 1) nd rfl (Or.inl rfl) pe_non)
    (pss_cons (ps_set (i := 2) nd rfl (Or.inl rfl) pe_non)
    (pss_cons (ps_tryL (i := 3) (n := "error") (c := .ref (ga X.K "HeadsError")) (tb := fun W D σ H => ∃ Ech : XK, (∀ cls d σ' H', Ech cls d H' → W cls d σ' H') ∧ σ[0]? = some (some (.ref f)) ∧ H c' = some (LamX.CodeO c' q) ∧ tl Ech H fun v H' => D.nx (σ.set 2 (some v)) H') rfl rfl rfl nd rfl rfl ⟨rfl, by decide, .inl gH⟩ LamX.takes0 (fun W pn xe tk _ => ?suite) (fun a oe cls d pn hz hf => pss_one (ps_set (i := 1) nd rfl (Or.inl rfl) (pv 3))))
    (pss_cons (ps_if (pt_val (pe_callB call_isA (by rfl) zisi (by decide +kernel) (pa_cons (pv 1) (pa_cons (pe_glob (v := .ref (ga X.K "BadItem")) rfl gI rfl) pa_nil)))) (pss_one (ps_ret (pe_tupN (pa_cons pe_str (pa_cons (pe_xfld (pv 1)) pa_nil))))) pss_nil)
    (pss_cons (ps_if (pt_val (pe_callB call_isA (by rfl) zisi (by decide +kernel) (pa_cons (pv 1) (pa_cons (pe_glob (v := .ref (ga X.K "BadPlace")) rfl gP rfl) pa_nil)))) (pss_one (ps_ret (pe_tupN (pa_cons pe_str (pa_cons (pe_xfld (pv 1)) pa_nil))))) pss_nil)
    (pss_cons (ps_if (pt_val (pe_callB call_isA (by rfl) zisi (by decide +kernel) (pa_cons (pv 1) (pa_cons (pe_glob (v := .ref (ga X.K "Disordered")) rfl gD rfl) pa_nil)))) (pss_one (ps_ret (pe_tupN (pa_cons pe_str (pa_cons (pe_xfld (pv 1)) pa_nil))))) pss_nil)
    (pss_cons (ps_if (pt_val (pe_callB call_isA (by rfl) zisi (by decide +kernel) (pa_cons (pv 1) (pa_cons (pe_glob (v := .ref (ga X.K "TooMany")) rfl gM rfl) pa_nil)))) (pss_one (ps_ret (pe_tupN (pa_cons pe_str (pa_cons (pe_xfld (pv 1)) pa_nil))))) pss_nil)
    (pss_one (ps_ret (pe_ifExp (pt_cmpR op_isN (pv 1) pe_non (nomark _)) (pe_lstN (pa_cons (pv 2) pa_nil)) (pe_tupN (pa_cons pe_str (pa_cons pe_int pa_nil))))))))))))), ?_⟩
  case suite =>
    refine ⟨fun pins s' σ H' D I h' => ?_⟩
    obtain ⟨Ech, hW, h1, h2, h3⟩ := h'
    exact (pss_one (ps_set (i := 2) nd rfl (Or.inl rfl) (act W pn xe Ech _ _ tk hW))).run pins s' σ H' D I ⟨h1, h2, h3⟩
  · refine ⟨Eh X.K Q, ?_, rfl, hc, h _ _ (fun _ _ _ z => z) fun v H1 hq => ?_⟩
    · rintro cls d σ' H' ⟨e, v, dd, he, rfl, rfl, hd, kq⟩ hl
      obtain ⟨w0, w1, w2, w3, rfl⟩ := four (show σ'.length = 4 from hl)
      refine ⟨ga X.K e.1, true, rfl, T.exm he, fun _ er her => ?_, fun z => nomatch z⟩
      have S1 := same_new (o := exT er (ga X.K e.1) (some dd)) her
      have hx : (upd H' er (exT er (ga X.K e.1) (some dd))) er = some (exT er (ga X.K e.1) (some dd)) := upd_same
      have hd2 := S1 _ _ hd
      have ty : TyA X.K (upd H' er (exT er (ga X.K e.1) (some dd))) (.ref er) (.ref (ga X.K e.1)) := .inr ⟨er, _, dd, _, rfl, rfl, .inr hx, .inr hd2, T.xc he, T.xo⟩
      have fin : ∀ (tp : Addr) (H3 : Hp), (upd H' er (exT er (ga X.K e.1) (some dd))) tp = none → Same (upd H' er (exT er (ga X.K e.1) (some dd))) H3 → H3 tp = some (.tup [.str (wordOf e.1), .int v]) → Q (.ref tp) H3 := fun tp H3 f3 s3 g3 => kq tp H3 (S1.free f3) (S1.trans s3) g3
      simp only [errs, List.mem_cons, List.not_mem_nil, or_false] at he
      have m0 : (("BadItem", 5, "part") : Str × Nat × Str) ∈ errs := by decide +kernel
      have m1 : (("BadPlace", 6, "at") : Str × Nat × Str) ∈ errs := by decide +kernel
      have m2 : (("Disordered", 7, "at") : Str × Nat × Str) ∈ errs := by decide +kernel
      have m3 : (("TooMany", 8, "most") : Str × Nat × Str) ∈ errs := by decide +kernel
      rcases he with rfl | rfl | rfl | rfl
      · refine ⟨_, rfl, _, rfl, .ref er, .ref (ga X.K "BadItem"), _, _, _, rfl, .own _, ty, T.kitT m0, _, rfl, ?_⟩
        exact iteT ⟨_, rfl, er, _, dd, _, _, rfl, .inr hx, T.xc m0, T.no m0, .inr hd2, rfl, sz1000 (by show 2 ≤ 1000; decide), fun tp H3 f3 s3 g3 => fin tp H3 f3 s3 g3⟩
      · refine ⟨_, rfl, _, rfl, .ref er, .ref (ga X.K "BadItem"), _, _, _, rfl, .own _, ty, T.kitF m1 m0 (by decide), _, rfl, ?_⟩
        refine iteF ⟨_, rfl, .ref er, .ref (ga X.K "BadPlace"), _, _, _, rfl, .own _, ty, T.kitT m1, _, rfl, ?_⟩
        exact iteT ⟨_, rfl, er, _, dd, _, _, rfl, .inr hx, T.xc m1, T.no m1, .inr hd2, rfl, sz1000 (by show 2 ≤ 1000; decide), fun tp H3 f3 s3 g3 => fin tp H3 f3 s3 g3⟩
      · refine ⟨_, rfl, _, rfl, .ref er, .ref (ga X.K "BadItem"), _, _, _, rfl, .own _, ty, T.kitF m2 m0 (by decide), _, rfl, ?_⟩
        refine iteF ⟨_, rfl, .ref er, .ref (ga X.K "BadPlace"), _, _, _, rfl, .own _, ty, T.kitF m2 m1 (by decide), _, rfl, ?_⟩
        refine iteF ⟨_, rfl, .ref er, .ref (ga X.K "Disordered"), _, _, _, rfl, .own _, ty, T.kitT m2, _, rfl, ?_⟩
        exact iteT ⟨_, rfl, er, _, dd, _, _, rfl, .inr hx, T.xc m2, T.no m2, .inr hd2, rfl, sz1000 (by show 2 ≤ 1000; decide), fun tp H3 f3 s3 g3 => fin tp H3 f3 s3 g3⟩
      · refine ⟨_, rfl, _, rfl, .ref er, .ref (ga X.K "BadItem"), _, _, _, rfl, .own _, ty, T.kitF m3 m0 (by decide), _, rfl, ?_⟩
        refine iteF ⟨_, rfl, .ref er, .ref (ga X.K "BadPlace"), _, _, _, rfl, .own _, ty, T.kitF m3 m1 (by decide), _, rfl, ?_⟩
        refine iteF ⟨_, rfl, .ref er, .ref (ga X.K "Disordered"), _, _, _, rfl, .own _, ty, T.kitF m3 m2 (by decide), _, rfl, ?_⟩
        refine iteF ⟨_, rfl, .ref er, .ref (ga X.K "TooMany"), _, _, _, rfl, .own _, ty, T.kitT m3, _, rfl, ?_⟩
        exact iteT ⟨_, rfl, er, _, dd, _, _, rfl, .inr hx, T.xc m3, T.no m3, .inr hd2, rfl, sz1000 (by show 2 ≤ 1000; decide), fun tp H3 f3 s3 g3 => fin tp H3 f3 s3 g3⟩
    · have kn := T.kind (t := "NoneType") (by decide)
      have k0 := kn.2 _ (show (("BadItem", 5, "part") : Str × Nat × Str) ∈ errs by decide +kernel)
      have k1 := kn.2 _ (show (("BadPlace", 6, "at") : Str × Nat × Str) ∈ errs by decide +kernel)
      have k2 := kn.2 _ (show (("Disordered", 7, "at") : Str × Nat × Str) ∈ errs by decide +kernel)
      have k3 := kn.2 _ (show (("TooMany", 8, "most") : Str × Nat × Str) ∈ errs by decide +kernel)
      refine ⟨_, rfl, .non, .ref (ga X.K "BadItem"), .type "NoneType", _, _, rfl, .own _, .inl (.base .non), k0, _, rfl, ?_⟩
      refine iteF ⟨_, rfl, .non, .ref (ga X.K "BadPlace"), .type "NoneType", _, _, rfl, .own _, .inl (.base .non), k1, _, rfl, ?_⟩
      refine iteF ⟨_, rfl, .non, .ref (ga X.K "Disordered"), .type "NoneType", _, _, rfl, .own _, .inl (.base .non), k2, _, rfl, ?_⟩
      refine iteF ⟨_, rfl, .non, .ref (ga X.K "TooMany"), .type "NoneType", _, _, rfl, .own _, .inl (.base .non), k3, _, rfl, ?_⟩
      refine iteF ⟨_, rfl, rfl, _, rfl, ?_⟩
      exact ⟨_, rfl, sz1000 (by show 1 ≤ 1000; decide), fun q H2 f2 m2 s2 g2 => hq q H2 f2 s2 g2⟩
end K04
/-! Gow: x[i] and «y in x» by x's own __getitem__, __contains__. -/
namespace Tw
open PySem PySem.Spec PyProof.Rows L2
section
variable {X : Cx} {CX : CXT} {k : Nat} {f C : Addr} {fd : FuncData} {ps : List Str} {sp : Sp} {E : XK}
def rIxOwn (C : Addr) (sp : Sp) (E : XK) : R2 := fun x y H Q => ∃ (a dx : Addr) (fs : List (Str × V)), x = .ref a ∧ H a = some (.ins C dx fs) ∧ sp [x, y] H Q E
theorem fnIn_of {K : PySem.W.Frag} {f : Addr} {x qual : Str} {params : Arguments} {body : List Stmt} {scope : Scope} {dvs : List V} {kws : List (Str × V)} {fd : FuncData} (F : FunD K x qual params body scope dvs kws f fd) : PySem.W.fnIn K f = true := by
  obtain ⟨oc, od, dV, kV, doc, pm, an, cdv, ct, osl, rfl, lk, _⟩ := F.ex
  unfold PySem.W.fnIn
  rw [lk]
theorem pe_ixOwn {a b : Expr} {ta tb : TE} {pos : Pos} (hs : PySem.W.findIn X.K (.ref C) "__getitem__" = some (some (.ref f))) (hf : PySem.W.isFn X.K (.ref f) = true) (hfn : PySem.W.fnIn X.K f = true) (F : FnOk X.prog X.w X.K X.mg X.base CX k f fd ps sp) (hr : Room (k + 1) X.A) (hb : Binds X.K fd ps []) (hx : Passes CX X E)
    (ha : PE X a ta) (hb2 : PE X b tb) (hsl : ∀ v u, subscripted b true v u = runValue (.builtin "lifetime.subscript" ⟨[v, u], []⟩) := by intro _ _; rfl) : PE X (.Subscript a b pos) (tOp (rIxOwn C sp E) ta tb) := by
  refine ⟨fun pins s σ H Q I h => Subscript_ (thn (ha.run pins s σ H _ I h) fun v s1 ⟨x, H1, I1, rx, q1⟩ => thn (hb2.run pins s1 σ H1 _ I1 q1) fun u s2 ⟨y, H2, I2, ry, q2⟩ => ?_)⟩
  obtain ⟨p, dx, fs, rfl, ea, q⟩ := q2
  cases (show v = Value.ref p from rx)
  obtain ⟨od, ox, J⟩ := inst_at I2 ea
  obtain ⟨m, hF⟩ := I2.fr
  exact PySem.W.sub_K hF I2.ok.mod.kin J hs hfn hf (run_in1 (us := [.ref p, u]) (vs := [.ref p, y]) F hr hb hx I2 (.cons rfl (.cons ry .nil)) q) (hsl _ _)
/-- y in x -/
def rHasOwn (C : Addr) (sp : Sp) (E : XK) : R2 := fun y x H Q => ∃ (a dx : Addr) (fs : List (Str × V)), x = .ref a ∧ H a = some (.ins C dx fs) ∧ sp [x, y] H (fun z H' => ∃ b, z = .bl b ∧ Q (.bl b) H') E
theorem op_inOwn (hs : PySem.W.findIn X.K (.ref C) "__contains__" = some (some (.ref f))) (hf : PySem.W.isFn X.K (.ref f) = true) (F : FnOk X.prog X.w X.K X.mg X.base CX k f fd ps sp) (hr : Room k X.A) (hb : Binds X.K fd ps []) (hx : Passes CX X E) : OpR X (compareOp .In) (rHasOwn C sp E) := by
  intro pins s σ H y x u v Q I ry rx h
  obtain ⟨a, dx, fs, rfl, ea, q⟩ := h
  cases (show v = Value.ref a from rx)
  obtain ⟨od, ox, J⟩ := inst_at I ea
  refine wpAny_bind (m := contains (.ref a) u) ?_
  unfold contains
  refine wpAny_holding ?_
  have e0 : stdlibNamesSay? (.ref a) u = none := rfl
  have sp0 : PySem.W.Looks (model X.prog X.w) s.heap (specialOf (.ref a) "__contains__") (some (.ref f)) := J.type.andThen (PySem.W.looks_findIn I.kIn hs)
  simp only [e0]
  refine wpAny_bind (sp0.here ?_)
  rw [if_neg (by intro z; cases z)]
  unfold callSpecialUnlessNone?
  refine wpAny_bind (wpAny_bind (sp0.here (wpAny_holding (wpAny_bind ((PySem.W.bind_fn I.kIn _ (beq_iff_eq.mp hf)).here ?_)))))
  show wpAny _ X.A (if ((Value.ref f == Value.none) = true) then _ else _) _ _ s
  rw [if_neg (by intro z; cases z)]
  refine wpAny_bind (wpAny_mono (run_fn (dvs := []) (ds := []) (us := [.ref a, u]) (vs := [.ref a, y]) F hr hb .nil hx I (.cons rfl (.cons ry .nil)) q) (fun w s' z => ?_) fun _ _ x => x)
  obtain ⟨z', H', I', rz, b, rfl, qz⟩ := z
  cases (show w = Value.bool b from rz)
  exact wpAny_pure (wpAny_truthy_bool (wpAny_pure ⟨.bl b, H', I', rfl, qz⟩))
end
end Tw
namespace K04
open PySem PySem.Spec PyProof.Rows L2 He Tw
abbrev s_str : Stmt := inClass (topS 25) 6
abbrev N_str : List Str := ["self", "first", "behind"]
theorem sc_str : FnScope N_str N_str (defScope s_str) := ⟨rfl, rfl, rfl, by decide +kernel, rfl, by decide +kernel, by decide +kernel⟩
/-- the items from f to ahead of b -/
def spStr (K : Fg) : Sp := fun vs H Q E => ∃ (a : Addr) (f b : Int) (ys : List V) (ps : List (Int × Str)), vs = [.ref a, .int f, .int b] ∧ RowAt K H a ys ∧ Its K H ys ps ∧ ps.length ≤ 400 ∧
  ((0 ≤ f ∧ f ≤ ps.length ∧ f ≤ b ∧ b ≤ ps.length) → ∀ (l : Addr) (H' : Hp), H l = none → Same H H' → H' l = some (.lst ((ys.take b.toNat).drop f.toNat)) → Q (.ref l) H') ∧
  (¬ (0 ≤ f ∧ f ≤ ps.length) → ∀ (d : Addr) (H' : Hp), Same H H' → H' d = some (.xd [("at", .int f)]) → E (.ref (ga K "BadPlace")) (some d) H') ∧
  ((0 ≤ f ∧ f ≤ ps.length) → ¬ (f ≤ b ∧ b ≤ ps.length) → ∀ (d : Addr) (H' : Hp), Same H H' → H' d = some (.xd [("at", .int b)]) → E (.ref (ga K "BadPlace")) (some d) H')
abbrev s_get : Stmt := inClass (topS 25) 5
abbrev N_get : List Str := ["self", "at", "first", "behind"]
theorem sc_get : FnScope N_get ["self", "at"] (defScope s_get) := ⟨rfl, rfl, rfl, by decide +kernel, rfl, by decide +kernel, by decide +kernel⟩
def spGet (K : Fg) : Sp := fun vs H Q E => (∃ (a : Addr) (i : Int) (ys : List V) (ps : List (Int × Str)), vs = [.ref a, .int i] ∧ RowAt K H a ys ∧ Its K H ys ps ∧ ps.length ≤ 400 ∧
    ((0 ≤ i ∧ i < ps.length) → ∀ (o : V), ys[i.toNat]? = some o → Q o H) ∧
    (¬ (0 ≤ i ∧ i < ps.length) → ∀ (d : Addr) (H' : Hp), Same H H' → H' d = some (.xd [("at", .int i)]) → E (.ref (ga K "BadPlace")) (some d) H')) ∨
  ∃ (a t : Addr) (f b : Int), vs = [.ref a, .ref t] ∧ H t = some (.tup [.int f, .int b]) ∧ spStr K [.ref a, .int f, .int b] H Q E
theorem cut_both (xs : List V) {f b : Int} (h0 : 0 ≤ f) (h1 : f ≤ b) (h2 : b ≤ xs.length) : cutV xs (some f) (some b) = (xs.take b.toNat).drop f.toNat := by
  obtain ⟨m, rfl⟩ : ∃ m : Nat, f = (m : Int) := ⟨f.toNat, by omega⟩
  obtain ⟨n, rfl⟩ : ∃ n : Nat, b = (n : Int) := ⟨b.toNat, by omega⟩
  unfold cutV
  rw [HT.sIx_nat, HT.sIx_nat, Int.toNat_natCast, Int.toNat_natCast, Nat.min_eq_left (by omega), Nat.min_eq_left (by omega), List.drop_take]
section
variable {P : Program} {w : World} {K : Fg} {mg : Str → Option Value} {base : Heap} {fd : Nat → FuncData}
theorem G_str (D : DefsK K fd) (T : Txt K mg) : FnOk P w K mg base (L2.CX P w) 3 (ma K (ga K "Row") "stretch") (fd 53) N_str (spStr K) := by
  have zlen : mg "len" = none := T.bl (by decide +kernel)
  have zlist : mg "list" = none := T.bl (by decide +kernel)
  have gB : mg "BadPlace" = some (.ref (ga K "BadPlace")) := T.cl (by decide +kernel)
  have mB : (("BadPlace", 6, "at") : Str × Nat × Str) ∈ errs := by decide +kernel
  obtain ⟨iB, tB⟩ := T.ini mB
  have G_bad : FnOk P w K mg base CX0 1 _ (fd 1) ["self", "at"] (spIni (ga K "BadPlace") "at") := ok_BadPlace (D 1 _ rfl) T
  have b_bad : Binds K (fd 1) ["self", "at"] [] := (show FnP K "__init__" "BadPlace.__init__" (s_err 6) (ma K (ga K "BadPlace") "__init__") (fd 1) from D 1 _ rfl).bindsN fun _ _ _ _ _ _ us hl => match us, hl with | [_, _], _ => rfl
  have F : FnP K "stretch" "Row.stretch" s_str (ma K (ga K "Row") "stretch") (fd 53) := D 53 _ rfl
  refine F.ok sc_str (fun vs H Q E h => ?_) (fun cdv A outer s H vs Q E hr h => ?_)
  · obtain ⟨a, f, b, ys, ps, rfl, _⟩ := h
    rfl
  · obtain ⟨a, f, b, ys, ps, rfl, hA, its, hn, k1, k2, k3⟩ := h
    refine ⟨_, (pss_cons (ps_if (pt_not (pt_chain op_le op_le pe_int (pv 1) (pe_callB call_len (by rfl) zlen (by decide +kernel) (pa_cons (pe_fld (pv 0) rfl) pa_nil)))) (pss_one (ps_raise rfl (takes_of rfl rfl rfl rfl) (pmk_oex (T.xc mB).ox iB tB G_bad (hr.mono (by decide)) b_bad .nil pass0 rfl gB (pa_cons (pv 1) pa_nil)))) pss_nil)
    (pss_cons (ps_if (pt_not (pt_chain op_le op_le (pv 1) (pv 2) (pe_callB call_len (by rfl) zlen (by decide +kernel) (pa_cons (pe_fld (pv 0) rfl) pa_nil)))) (pss_one (ps_raise rfl (takes_of rfl rfl rfl rfl) (pmk_oex (T.xc mB).ox iB tB G_bad (hr.mono (by decide)) b_bad .nil pass0 rfl gB (pa_cons (pv 2) pa_nil)))) pss_nil)
    (pss_one (ps_ret (pe_callTy call_list_of (by rfl) zlist (by decide +kernel) (pa_cons (pe_slice sl_tupA (pe_fld (pv 0) rfl) (po_some (pv 1)) (po_some (pv 2))) pa_nil)))))), ?_⟩
    obtain ⟨dx, t, ha, ht⟩ := id hA
    have ln := its_len its
    refine ⟨_, rfl, _, _, rfl, rfl, _, rfl, ?_⟩
    refine ite2 (fun h0 => ?_) (fun h0 => ?_)
    · refine ⟨_, rfl, a, _, dx, _, _, rfl, ha, T.clsR, T.naR, rfl, _, _, rfl, .inr ⟨_, SqT.of ht, rfl⟩, _, _, rfl, rfl, _, rfl, ?_⟩
      have f0 : 0 ≤ f := of_decide_eq_true h0
      cases h1 : decide (f ≤ (ys.length : Int)) with
      | false =>
        have n1 : ¬ f ≤ (ys.length : Int) := of_decide_eq_false h1
        exact iteT ⟨_, rfl, err_out fun d H5 s5 e5 => k2 (fun z => n1 (by omega)) d H5 s5 e5⟩
      | true =>
        have l1 : f ≤ (ys.length : Int) := of_decide_eq_true h1
        refine iteF ?_
        refine ⟨_, rfl, _, rfl, _, _, rfl, rfl, _, rfl, ?_⟩
        have ff : 0 ≤ f ∧ f ≤ (ps.length : Int) := ⟨f0, by omega⟩
        refine ite2 (fun h2 => ?_) (fun h2 => ?_)
        · refine ⟨_, rfl, a, _, dx, _, _, rfl, ha, T.clsR, T.naR, rfl, _, _, rfl, .inr ⟨_, SqT.of ht, rfl⟩, _, _, rfl, rfl, _, rfl, ?_⟩
          have b0 : f ≤ b := of_decide_eq_true h2
          cases h3 : decide (b ≤ (ys.length : Int)) with
          | false =>
            have n3 : ¬ b ≤ (ys.length : Int) := of_decide_eq_false h3
            exact iteT ⟨_, rfl, err_out fun d H5 s5 e5 => k3 ff (fun z => n3 (by omega)) d H5 s5 e5⟩
          | true =>
            have l3 : b ≤ (ys.length : Int) := of_decide_eq_true h3
            refine iteF ?_
            have cb := cut_both ys f0 b0 l3
            have ok := k1 ⟨f0, ff.2, b0, by omega⟩
            refine ⟨_, rfl, a, _, dx, _, _, rfl, ha, T.clsR, T.naR, rfl, _, rfl, f, rfl, _, rfl, b, rfl, t, ys, rfl, SqT.of ht, fun hw => ⟨t, ys, rfl, .inr (SqT.of ht), fun l hl => ok l _ hl (same_new hl) ?_⟩, fun hw q hq => ⟨q, _, rfl, .inr (SqT.of upd_same), fun l hl => ok l _ ?_ ((same_new hq).trans (same_new hl)) ?_⟩⟩
            · rw [upd_same, ← cb]
              unfold cutV
              rw [hw.1, hw.2]
              simp
            · exact (same_new (o := .tup (cutV ys (some f) (some b))) hq).free hl
            · rw [upd_same, cb]
        · exact ⟨_, rfl, iteT ⟨_, rfl, err_out fun d H5 s5 e5 => k3 ff (fun z => h2 (decide_eq_true z.1)) d H5 s5 e5⟩⟩
    · exact ⟨_, rfl, iteT ⟨_, rfl, err_out fun d H5 s5 e5 => k2 (fun z => h0 (decide_eq_true z.1)) d H5 s5 e5⟩⟩
theorem G_get (D : DefsK K fd) (T : Txt K mg) : FnOk P w K mg base (L2.CX P w) 4 (ma K (ga K "Row") "__getitem__") (fd 52) ["self", "at"] (spGet K) := by
  have zlen : mg "len" = none := T.bl (by decide +kernel)
  have zisi : mg "isinstance" = none := T.bl (by decide +kernel)
  have ztup : mg "tuple" = none := T.bl (by decide +kernel)
  have gB : mg "BadPlace" = some (.ref (ga K "BadPlace")) := T.cl (by decide +kernel)
  have mB : (("BadPlace", 6, "at") : Str × Nat × Str) ∈ errs := by decide +kernel
  obtain ⟨iB, tB⟩ := T.ini mB
  have G_bad : FnOk P w K mg base CX0 1 _ (fd 1) ["self", "at"] (spIni (ga K "BadPlace") "at") := ok_BadPlace (D 1 _ rfl) T
  have b_bad : Binds K (fd 1) ["self", "at"] [] := (show FnP K "__init__" "BadPlace.__init__" (s_err 6) (ma K (ga K "BadPlace") "__init__") (fd 1) from D 1 _ rfl).bindsN fun _ _ _ _ _ _ us hl => match us, hl with | [_, _], _ => rfl
  have F : FnP K "__getitem__" "Row.__getitem__" s_get (ma K (ga K "Row") "__getitem__") (fd 52) := D 52 _ rfl
  have FS : FnP K "stretch" "Row.stretch" s_str (ma K (ga K "Row") "stretch") (fd 53) := D 53 _ rfl
  have GS : FnOk P w K mg base (L2.CX P w) 3 _ (fd 53) N_str (spStr K) := G_str D T
  have bS : Binds K (fd 53) N_str [] := FS.bindsN fun _ _ _ _ _ _ us hl => match us, hl with | [_, _, _], _ => rfl
  have mS := T.mtR2 (m := "stretch") (by decide +kernel)
  refine F.ok sc_get (fun vs H Q E h => ?_) (fun cdv A outer s H vs Q E hr h => ?_)
  · rcases h with ⟨a, i, ys, ps, rfl, _⟩ | ⟨a, t, f, b, rfl, _⟩ <;> rfl
  · refine ⟨_, (pss_cons (ps_if (pt_val (pe_callB call_isA (by rfl) zisi (by decide +kernel) (pa_cons (pv 1) (pa_cons (pe_bltn (v := .ty "tuple") (by rfl) ztup (by decide +kernel) rfl) pa_nil))))
      (pss_cons (ps_asg (pv 1) (pg_tup (by rfl) (pgs_cons (pg_name (i := 2) sc_get.nd rfl (Or.inl rfl)) (pgs_cons (pg_name (i := 3) sc_get.nd rfl (Or.inl rfl)) pgs_nil))))
      (pss_one (ps_ret (pe_meth (E := E) (pv 0) T.clsR mS GS (hr.mono (by decide)) bS .nil (passes_call (takes_of rfl rfl rfl rfl) (fun _ _ _ _ h => h)) (pa_cons (pv 2) (pa_cons (pv 3) pa_nil)))))) pss_nil)
    (pss_cons (ps_if (pt_not (pt_chain op_le op_lt pe_int (pv 1) (pe_callB call_len (by rfl) zlen (by decide +kernel) (pa_cons (pe_fld (pv 0) rfl) pa_nil)))) (pss_one (ps_raise rfl (takes_of rfl rfl rfl rfl) (pmk_oex (T.xc mB).ox iB tB G_bad (hr.mono (by decide)) b_bad .nil pass0 rfl gB (pa_cons (pv 1) pa_nil)))) pss_nil)
    (pss_one (ps_ret (pe_ix ix_tup (pe_fld (pv 0) rfl) (pv 1) (fun _ _ => rfl)))))), ?_⟩
    rcases h with ⟨a, i, ys, ps, rfl, hA, its, hn, k1, k2⟩ | ⟨a, t, f, b, rfl, ht, h⟩
    · obtain ⟨dx, t, ha, ht⟩ := id hA
      have ln := its_len its
      refine ⟨_, rfl, .int i, .ty "tuple", _, _, _, rfl, .ty "tuple", .inl (Bv.int i).ty, kit_ty (r := false) (by decide +kernel), _, rfl, iteF ?_⟩
      refine ⟨_, rfl, _, _, rfl, rfl, _, rfl, ?_⟩
      refine ite2 (fun h0 => ?_) (fun h0 => ?_)
      · refine ⟨_, rfl, a, _, dx, _, _, rfl, ha, T.clsR, T.naR, rfl, _, _, rfl, .inr ⟨_, SqT.of ht, rfl⟩, _, _, rfl, rfl, _, rfl, ?_⟩
        have i0 : 0 ≤ i := of_decide_eq_true h0
        cases h1 : decide (i < (ys.length : Int)) with
        | false =>
          have n1 : ¬ i < (ys.length : Int) := of_decide_eq_false h1
          exact iteT ⟨_, rfl, err_out fun d H5 s5 e5 => k2 (fun z => n1 (by omega)) d H5 s5 e5⟩
        | true =>
          have l1 : i < (ys.length : Int) := of_decide_eq_true h1
          refine iteF ?_
          have hlt : i.toNat < ys.length := by omega
          have hy : ys[i.toNat]? = some ys[i.toNat] := List.getElem?_eq_getElem hlt
          refine ⟨_, rfl, a, _, dx, _, _, rfl, ha, T.clsR, T.naR, rfl, _, rfl, t, ys, i, _, rfl, rfl, SqT.of ht, ?_, k1 ⟨i0, by omega⟩ _ hy⟩
          have := atI_nat hy
          rwa [Int.toNat_of_nonneg i0] at this
      · exact ⟨_, rfl, iteT ⟨_, rfl, err_out fun d H5 s5 e5 => k2 (fun z => h0 (decide_eq_true z.1)) d H5 s5 e5⟩⟩
    · refine ⟨_, rfl, .ref t, .ty "tuple", _, _, _, rfl, .ty "tuple", .inl (Bv.tup ht).ty, kit_ty (r := true) (by decide +kernel), _, rfl, iteT ?_⟩
      obtain ⟨a', f', b', ys, ps, e, hA, r⟩ := id h
      cases e
      obtain ⟨dx, tt, ha, _⟩ := id hA
      exact ⟨_, rfl, t, _, rfl, SqT.of ht, rfl, _, _, rfl, _, _, rfl, rfl, _, rfl, a, dx, _, rfl, ha, rfl, _, rfl, _, rfl, h⟩
end
end K04
namespace K04
open PySem PySem.Spec PyProof.Rows L2 He Tw
abbrev s_has : Stmt := inClass (topS 25) 8
theorem sc_has : FnScope ["self", "x"] ["self", "x"] (defScope s_has) := ⟨rfl, rfl, rfl, by decide +kernel, rfl, by decide +kernel, by decide +kernel⟩
/-- a value that is no item and no number -/
def NoNum (K : Fg) (H : Hp) (x : V) : Prop := ∃ t, TyA K H x t ∧ PySem.W.kitOne K t (.ref (ga K "Item")) = some false ∧ (PySem.W.kitOne K t (.type "int") = some false ∨ (PySem.W.kitOne K t (.type "int") = some true ∧ PySem.W.kitOne K t (.type "bool") = some true))
def spHas (K : Fg) : Sp := fun vs H Q _ => ∃ (a : Addr) (x : V) (ys : List V) (ps : List (Int × Str)), vs = [.ref a, x] ∧ RowAt K H a ys ∧ Its K H ys ps ∧ ps.length ≤ 400 ∧
  ((∃ (b : Addr) (r : Int) (z : Str), x = .ref b ∧ It K H b r z ∧ ∀ H', Same H H' → Q (.bl (decide (r ∈ rk ps))) H') ∨ (∃ i : Int, x = .int i ∧ ∀ H', Same H H' → Q (.bl (decide (i ∈ rk ps))) H') ∨ (NoNum K H x ∧ ∀ H', Same H H' → Q (.bl false) H'))
def spNumA (K : Fg) : Sp := fun vs H Q _ => ∃ (x : V), vs = [x] ∧ ((∃ i : Int, x = .int i ∧ Q (.bl true) H) ∨ ∃ t, TyA K H x t ∧ (PySem.W.kitOne K t (.type "int") = some false ∨ (PySem.W.kitOne K t (.type "int") = some true ∧ PySem.W.kitOne K t (.type "bool") = some true)) ∧ Q (.bl false) H)
theorem flat_ints (xs : List Int) : (xs.map V.int).all flatV = true := List.all_eq_true.mpr fun v hv => by
  obtain ⟨i, _, rfl⟩ := List.mem_map.mp hv
  rfl
theorem inV_ints (i : Int) : ∀ xs : List Int, inV (.int i) (xs.map V.int) = decide (i ∈ xs) := fun xs => by
  unfold inV
  rw [List.any_map, Bool.eq_iff_iff, List.any_eq_true, decide_eq_true_eq]
  constructor
  · rintro ⟨x, hx, e⟩
    have e : (x == i) = true := e
    rw [beq_iff_eq] at e
    exact e ▸ hx
  · intro h
    refine ⟨i, h, ?_⟩
    show (i == i) = true
    exact beq_self_eq_true i
section
variable {P : Program} {w : World} {K : Fg} {mg : Str → Option Value} {base : Heap} {fd : Nat → FuncData}
theorem ok_numA {f : Addr} {fd : FuncData} (F : FnP K "is_number" "is_number" s_num f fd) (T : Txt K mg) : FnOk P w K mg base CX0 1 f fd ["value"] (spNumA K) := by
  have zisi : mg "isinstance" = none := T.bl (by decide +kernel)
  have zint : mg "int" = none := T.bl (by decide +kernel)
  have zbool : mg "bool" = none := T.bl (by decide +kernel)
  refine F.ok sc_num (fun vs H Q E h => ?_) (fun cdv A outer s H vs Q E hr h => ?_)
  · obtain ⟨x, rfl, _⟩ := h
    rfl
  · obtain ⟨x, rfl, h⟩ := h
    refine ⟨_, PSs.nox (pss_one (ps_ret (pe_and (pe_callB call_isA (by rfl) zisi (by decide +kernel) (pa_cons (pv 0) (pa_cons (pe_bltn (v := .ty "int") (by rfl) zint (by decide +kernel) rfl) pa_nil))) (pe_one (pe_not (pe_callB call_isA (by rfl) zisi (by decide +kernel) (pa_cons (pv 0) (pa_cons (pe_bltn (v := .ty "bool") (by rfl) zbool (by decide +kernel) rfl) pa_nil)))))))), ?_⟩
    rcases h with ⟨i, rfl, k⟩ | ⟨t, ty, h | ⟨h1, h2⟩, k⟩
    · obtain ⟨k1, k2, k3⟩ := (Bv.int (H := H) i).kits (K := K)
      exact ⟨_, rfl, .int i, .ty "int", _, _, _, rfl, .ty "int", .inl (Bv.int i).ty, k3, _, rfl, _, rfl, .int i, .ty "bool", _, _, _, rfl, .ty "bool", .inl (Bv.int i).ty, k2, _, rfl, k⟩
    · exact ⟨_, rfl, x, .ty "int", _, _, _, rfl, .ty "int", ty, h, _, rfl, k⟩
    · exact ⟨_, rfl, x, .ty "int", _, _, _, rfl, .ty "int", ty, h1, _, rfl, _, rfl, x, .ty "bool", _, _, _, rfl, .ty "bool", ty, h2, _, rfl, k⟩
theorem ok_has {fd fdK fdN : FuncData} (F : FnP K "__contains__" "Row.__contains__" s_has (ma K (ga K "Row") "__contains__") fd) (FK : FnP K "ranks" "Row.ranks" s_rks (ma K (ga K "Row") "ranks") fdK) (FN : FnP K "is_number" "is_number" s_num (ga K "is_number") fdN) (T : Txt K mg) :
    FnOk P w K mg base CX0 2 (ma K (ga K "Row") "__contains__") fd ["self", "x"] (spHas K) := by
  have zisi : mg "isinstance" = none := T.bl (by decide +kernel)
  have gI : mg "Item" = some (.ref (ga K "Item")) := T.cl (by decide +kernel)
  have gN := T.fn (x := "is_number") (by decide +kernel)
  have GK : FnOk P w K mg base CX0 1 _ fdK ["self"] (spRanks K) := ok_rks FK T
  have bK : Binds K fdK ["self"] [] := FK.bindsN fun _ _ _ _ _ _ us hl => match us, hl with | [_], _ => rfl
  have GN : FnOk P w K mg base CX0 1 _ fdN ["value"] (spNumA K) := ok_numA FN T
  have bN : Binds K fdN ["value"] [] := FN.bindsN fun _ _ _ _ _ _ us hl => match us, hl with | [_], _ => rfl
  have mK := T.mtR2 (m := "ranks") (by decide +kernel)
  refine F.ok sc_has (fun vs H Q E h => ?_) (fun cdv A outer s H vs Q E hr h => ?_)
  · obtain ⟨a, x, ys, ps, rfl, _⟩ := h
    rfl
  · obtain ⟨a, x, ys, ps, rfl, hA, its, hn, h⟩ := h
    refine ⟨_, PSs.nox (pss_cons (ps_if (pt_val (pe_callB call_isA (by rfl) zisi (by decide +kernel) (pa_cons (pv 1) (pa_cons (pe_glob (v := .ref (ga K "Item")) rfl gI rfl) pa_nil)))) (pss_one (ps_ret (pe_cmpR op_in_seq (pe_fld (pv 1) rfl) (pe_meth0 (E := E0) (pv 0) T.clsR mK GK (hr.mono (by decide)) bK .nil pass0) rfl))) pss_nil)
    (pss_one (ps_ret (pe_and (pe_call (E := E0) GN (hr.mono (by decide)) rfl gN FN.kp bN .nil pass0 (pa_cons (pv 1) pa_nil)) (pe_one (pe_cmpR op_in_seq (pv 1) (pe_meth0 (E := E0) (pv 0) T.clsR mK GK (hr.mono (by decide)) bK .nil pass0) rfl)))))), ?_⟩
    obtain ⟨dx, t, ha, ht⟩ := id hA
    have ln := its_len its
    rcases h with ⟨b, r, z, rfl, hb, k⟩ | ⟨i, rfl, k⟩ | ⟨⟨t, ty, hI, hN⟩, k⟩
    · obtain ⟨dz, hz⟩ := id hb
      refine ⟨_, rfl, .ref b, .ref (ga K "Item"), _, _, _, rfl, .own _, .inl (It.ty T hb), T.kitII, _, rfl, iteT ?_⟩
      refine ⟨_, rfl, b, _, dz, _, .int r, rfl, hz, T.cls, T.na (by decide +kernel), rfl, _, rfl, a, dx, _, rfl, ha, rfl, a, ys, ps, rfl, hA, its, by omega, fun l H1 h1 s1 g1 => ⟨l, _, rfl, .inl (SqL.of g1), rfl, flat_ints _, ?_⟩⟩
      rw [if_neg Bool.false_ne_true, inV_ints]
      exact k H1 s1
    · obtain ⟨e1, e2⟩ := T.kind (t := "int") (by decide +kernel)
      refine ⟨_, rfl, .int i, .ref (ga K "Item"), _, _, _, rfl, .own _, .inl (Bv.int i).ty, e1, _, rfl, iteF ?_⟩
      refine ⟨_, rfl, .int i, rfl, .inl ⟨i, rfl, _, rfl, _, rfl, _, rfl, a, dx, _, rfl, ha, rfl, a, ys, ps, rfl, hA, its, by omega, fun l H1 h1 s1 g1 => ⟨l, _, rfl, .inl (SqL.of g1), rfl, flat_ints _, ?_⟩⟩⟩
      rw [if_neg Bool.false_ne_true, inV_ints]
      exact k H1 s1
    · exact ⟨_, rfl, x, .ref (ga K "Item"), _, _, _, rfl, .own _, ty, hI, _, rfl, iteF ⟨_, rfl, x, rfl, .inr ⟨t, ty, hN, _, rfl, k _ (Same.refl H)⟩⟩⟩
end
end K04
namespace K04
open PySem PySem.Spec PyProof.Rows L2 He Tw
abbrev s_lnum : Stmt := topS 36
abbrev N_lnum : List Str := ["_law_pairs_here", "_law_height", "_law_pair"]
theorem sc_lnum : FnScope N_lnum ["_law_pairs_here", "_law_height"] (defScope s_lnum) := ⟨rfl, rfl, rfl, by decide +kernel, rfl, by decide +kernel, by decide +kernel⟩
/-- how many pairs of this rank -/
def spLNum (K : Fg) : Sp := fun vs H Q _ => ∃ (f : Addr) (r : Int) (ts : List V) (ps : List (Int × Str)), vs = [.ref f, .int r] ∧ SqL K H f ts ∧ Prs H ts ps ∧ ps.length ≤ 400 ∧ ∀ H', Same H H' → Q (.int (cnt r ps : Nat)) H'
abbrev s_lidx : Stmt := topS 37
theorem sc_lidx : FnScope ["_law_pen_here", "_law_many"] ["_law_pen_here", "_law_many"] (defScope s_lidx) := ⟨rfl, rfl, rfl, by decide +kernel, rfl, by decide +kernel, by decide +kernel⟩
def spLIdx : Sp := fun vs H Q _ => ∃ (p l : Addr) (n c : Nat), vs = [.ref p, .int (n : Nat)] ∧ n ≤ 400 ∧ PenL H p l c ∧ c ≤ 900000 ∧ ∀ (i : Int) (H' : Hp), PenL H' p l (c + 3) → But p H H' → -(10 ^ 20) ≤ i → i ≤ 10 ^ 20 → Q (.int i) H'
abbrev s_lblk : Stmt := topS 39
abbrev N_lblk : List Str := ["_law_pairs_here", "_law_found", "_law_height", "_law_name"]
theorem sc_lblk : FnScope N_lblk ["_law_pairs_here"] (defScope s_lblk) := ⟨rfl, rfl, rfl, by decide +kernel, rfl, by decide +kernel, by decide +kernel⟩
/-- the blocks, as tuples -/
def Blks (H : Hp) (xs : List V) (ps : List (Int × Str)) (rs : List Int) : Prop := Paired (fun v r => ∃ t, v = V.ref t ∧ H t = some (.tup [.int r, .int (cnt r ps : Nat)])) xs rs
def spLBlk (K : Fg) : Sp := fun vs H Q _ => ∃ (f : Addr) (ts : List V) (ps : List (Int × Str)), vs = [.ref f] ∧ SqL K H f ts ∧ Prs H ts ps ∧ ps.length ≤ 400 ∧ Up ps ps.length ∧ ∀ (l : Addr) (H' : Hp) (xs : List V), H l = none → Same H H' → H' l = some (.lst xs) → Blks H' xs ps (fsts (rk ps)) → Q (.ref l) H'
section
variable {P : Program} {w : World} {K : Fg} {mg : Str → Option Value} {base : Heap} {fd : Nat → FuncData}
theorem cnt_take (r : Int) (ps : List (Int × Str)) {i : Nat} {q : Int × Str} (e : ps[i]? = some q) : cnt r (ps.take (i + 1)) = cnt r (ps.take i) + if q.1 = r then 1 else 0 := by
  rw [List.take_add_one, e]
  unfold cnt at_
  rw [Option.toList_some, List.filter_append, List.length_append]
  by_cases h : q.1 = r
  · simp [h]
  · simp [h]
theorem ok_lnum {f : Addr} {fd : FuncData} (F : FnP K "_law_number" "_law_number" s_lnum f fd) (T : Txt K mg) : FnOk P w K mg base CX0 1 f fd ["_law_pairs_here", "_law_height"] (spLNum K) := by
  have zlen : mg "len" = none := T.bl (by decide +kernel)
  refine F.ok sc_lnum (fun vs H Q E h => ?_) (fun cdv A outer s H vs Q E hr h => ?_)
  · obtain ⟨f, r, ts, ps, rfl, _⟩ := h
    rfl
  · obtain ⟨f, r, ts, ps, rfl, hf, pr, hn, k⟩ := h
    refine ⟨_, PSs.nox (pss_one (ps_ret (pe_callB call_len (by rfl) zlen (by decide +kernel) (pa_cons (pe_lc (own := [("_law_pair", 2)]) (g := gName 2) (by rfl) sc_lnum.nd (pi_list (pv 0)) (blkOk_by (own := [("_law_pair", 2)]) (N := N_lnum) (sc := defScope s_lnum) (by decide +kernel)) (fun _ _ _ _ _ => (pg_name (i := 2) sc_lnum.nd rfl (Or.inl rfl))) (fun _ _ _ _ _ => pts_one (pt_cmpR op_eq (pe_ix (ixt K) (pv 2) pe_int (fun _ _ => rfl)) (pv 1) (nomark _))) (fun _ _ _ _ _ => (pv 2))) pa_nil)))), ?_⟩
    have lt : ts.length = ps.length := Paired.length pr
    refine ⟨_, rfl, f, rfl, ⟨ts, hf⟩, fun D hD => lc_list (K := K) (a := f) (xs := ts) (fun i H' => Same H H' ∧ ∃ us : List V, H' D = some (.lst us) ∧ us.length = cnt r (ps.take i)) ⟨same_new hD, [], upd_same, rfl⟩ (fun i H' _ q => q.1.seq hf) ?_ ?_⟩
    · rintro j x H' hx ⟨sD, us, gD, lu⟩
      obtain ⟨t, q, rfl, eq, ht⟩ := prs_at pr hx
      refine ⟨rfl, _, rfl, t, _, 0, .int q.1, rfl, rfl, SqT.of (sD _ _ ht), rfl, _, rfl, rfl, _, rfl, ?_⟩
      have lz : us.length < sizeLine := Nat.lt_of_le_of_lt (show us.length ≤ 400 by
        rw [lu]
        unfold cnt at_
        exact Nat.le_trans (List.length_filter_le _ _) (Nat.le_trans (List.length_take_le' _ _) hn)) (by decide)
      by_cases h : q.1 = r
      · rw [h, decide_eq_true rfl]
        exact ⟨_, rfl, us, gD, lz, same_upd sD hD, us ++ [.ref t], upd_same, by rw [List.length_append, cnt_take r ps eq, if_pos h, lu]; rfl⟩
      · rw [decide_eq_false (fun z => h (V.int.inj z))]
        exact iteF ⟨sD, us, gD, by rw [cnt_take r ps eq, if_neg h, lu]; rfl⟩
    · rintro H2 ⟨s2, us, g2, lu⟩
      rw [List.take_of_length_le (by omega)] at lu
      refine ⟨.ref D, _, rfl, .inl ⟨us, SqL.of g2, rfl⟩, ?_⟩
      rw [lu]
      exact k H2 s2
theorem ok_lidx {f fD fP : Addr} {fd fdD fdP : FuncData} (F : FnP K "_law_index" "_law_index" s_lidx f fd) (FD : FnP K "_law_draw" "_law_draw" s_draw fD fdD) (gD : mg "_law_draw" = some (.ref fD)) (FP : FnP K "_law_pick" "_law_pick" s_pick fP fdP) (gP : mg "_law_pick" = some (.ref fP)) (T : Txt K mg) :
    FnOk P w K mg base CX0 3 f fd ["_law_pen_here", "_law_many"] spLIdx := by
  have G_draw : FnOk P w K mg base CX0 1 fD fdD ["_law_pen_here", "_law_many"] spDrawL := ok_draw FD T
  have G_pick : FnOk P w K mg base CX0 2 fP fdP ["_law_pen_here", "_law_some"] (spPickL K) := ok_pick FP FD gD T
  have b_draw : Binds K fdD ["_law_pen_here", "_law_many"] [] := FD.bindsN fun _ _ _ _ _ _ us hl => match us, hl with | [_, _], _ => rfl
  have b_pick : Binds K fdP ["_law_pen_here", "_law_some"] [] := FP.bindsN fun _ _ _ _ _ _ us hl => match us, hl with | [_, _], _ => rfl
  refine F.ok sc_lidx (fun vs H Q E h => ?_) (fun cdv A outer s H vs Q E hr h => ?_)
  · obtain ⟨p, l, n, c, rfl, _⟩ := h
    rfl
  · obtain ⟨p, l, n, c, rfl, hn, hP, hc, k⟩ := h
    refine ⟨_, PSs.nox (pss_one (ps_ret (pe_call (E := E0) G_pick (hr.mono (by decide)) rfl gP FP.kp b_pick .nil pass0 (pa_cons (pv 0) (pa_cons (pe_lstN (pa_cons (pe_call (E := E0) G_draw (hr.mono (by decide)) rfl gD FD.kp b_draw .nil pass0 (pa_cons (pv 0) (pa_cons (pe_op op_add (pv 1) pe_int) pa_nil))) (pa_cons (pe_call (E := E0) G_draw (hr.mono (by decide)) rfl gD FD.kp b_draw .nil pass0 (pa_cons (pv 0) (pa_cons (pe_op op_add (pv 1) pe_int) pa_nil))) (pa_cons (pv 1) (pa_cons (pe_op op_sub (pv 1) pe_int) (pa_cons pe_int (pa_cons (pe_un un_neg pe_int) (pa_cons (pe_un un_neg (pv 1)) (pa_cons (pe_op op_pow pe_int pe_int) pa_nil))))))))) pa_nil))))), ?_⟩
    refine ⟨_, rfl, _, rfl, _, rfl, _, _, rfl, rfl, p, l, (n : Int) + 1, c, rfl, by omega, by omega, hP, by omega, fun r1 H1 a1 b1 P1 B1 => ?_⟩
    refine ⟨_, rfl, _, rfl, _, _, rfl, rfl, p, l, (n : Int) + 1, c + 1, rfl, by omega, by omega, P1, by omega, fun r2 H2 a2 b2 P2 B2 => ?_⟩
    have hb : ∀ v, v ∈ ([V.int r1, V.int r2, V.int (n : Nat), V.int ((n : Nat) - 1), V.int 0, V.int (-1), V.int (-(n : Nat)), V.int (10 ^ 20)] : List V) → ∃ i : Int, v = .int i ∧ -(10 ^ 20) ≤ i ∧ i ≤ 10 ^ 20 := fun v hv => by
      simp only [List.mem_cons, List.not_mem_nil, or_false] at hv
      rcases hv with rfl | rfl | rfl | rfl | rfl | rfl | rfl | rfl
      all_goals exact ⟨_, rfl, by omega, by omega⟩
    refine ⟨_, rfl, _, rfl, _, _, rfl, rfl, _, rfl, _, rfl, _, rfl, _, _, rfl, rfl, (by unfold CPow; decide), sz1000 (by show 8 ≤ 1000; decide), fun q H3 f3 n3 s3 g3 => ?_⟩
    have P3 := P2.same s3
    refine ⟨p, l, q, _, c + 2, rfl, SqL.of g3, (P2.new f3).1, by show 0 < 8; decide, by show 8 < 1000; decide, P3, by omega, fun v H4 hv P4 B4 => ?_⟩
    obtain ⟨i, rfl, i1, i2⟩ := hb v hv
    exact k i H4 P4 (((B1.trans B2).trans (But.of s3)).trans B4) i1 i2
end
end K04
namespace K04
open PySem PySem.Spec PyProof.Rows L2 He Tw
def pdB (ps : List (Int × Str)) (r : Int) : PyData := .tuple [.int r, .int (cnt r ps : Nat)]
theorem dpBlks {K : Fg} {H : Hp} {ps : List (Int × Str)} : ∀ {xs : List V} {rs : List Int}, Blks H xs ps rs → DpAll K H xs (rs.map (pdB ps))
  | _, _, .nil => .nil
  | _, _, .cons ⟨t, e, h⟩ r => by
    subst e
    exact .cons (.tup (SqT.of h) (.cons (.int _) (.cons (.int _) .nil))) (dpBlks r)
theorem blks_keep {H H' : Hp} {ps : List (Int × Str)} (k : ∀ t xs, H t = some (.tup xs) → H' t = some (.tup xs)) : ∀ {xs : List V} {rs : List Int}, Blks H xs ps rs → Blks H' xs ps rs
  | _, _, .nil => .nil
  | _, _, .cons ⟨t, e, h⟩ r => .cons ⟨t, e, k _ _ h⟩ (blks_keep k r)
theorem blks_snoc {H : Hp} {ps : List (Int × Str)} {t : Addr} {r : Int} (h : H t = some (.tup [.int r, .int (cnt r ps : Nat)])) : ∀ {xs : List V} {rs : List Int}, Blks H xs ps rs → Blks H (xs ++ [.ref t]) ps (rs ++ [r])
  | _, _, .nil => .cons ⟨t, rfl, h⟩ .nil
  | _, _, .cons x r => .cons x (blks_snoc h r)
theorem shapedB (ps : List (Int × Str)) (rs : List Int) : SeqAt.shaped (.list (rs.map (pdB ps))) = true := by
  have h : PyData.canLayAll0 (rs.map (pdB ps)) = true ∧ PyData.depthAll (rs.map (pdB ps)) ≤ 1 := by
    induction rs with
    | nil => exact ⟨rfl, Nat.zero_le _⟩
    | cons r rs ih =>
      constructor
      · simp only [List.map_cons, pdB, PyData.canLayAll0, PyData.canLay0, ih.1, Bool.and_self]
      · have := ih.2
        simp only [List.map_cons, pdB, PyData.depthAll, PyData.depth]
        omega
  simp only [SeqAt.shaped, PyData.canLay0, PyData.depth, h.1, Bool.true_and]
  exact decide_eq_true (by have := h.2; omega)
theorem eqvB (ps : List (Int × Str)) (rs : List Int) : PyData.eqv (.list (rs.map (pdB ps))) (.list (rs.map (pdB ps))) = true := SeqAt.eqv_refl _ (by
  have := shapedB ps rs
  unfold SeqAt.shaped at this
  simp only [Bool.and_eq_true] at this
  exact this.1)
theorem up_le {ps : List (Int × Str)} (up : Up ps ps.length) {i : Nat} {a b : Int × Str} (ha : ps[i]? = some a) (hb : ps[i + 1]? = some b) : a.1 ≤ b.1 := up i a b (List.getElem?_eq_some_iff.mp ha).1 ha hb
/-- the last of the ranks in ascending pairs -/
theorem fsts_last {ps : List (Int × Str)} (up : Up ps ps.length) : ∀ {i : Nat} {q : Int × Str}, ps[i]? = some q → (fsts (rk (ps.take (i + 1)))).getLast? = some q.1 ∧ ∀ r ∈ rk (ps.take (i + 1)), r ≤ q.1
  | 0, q, h => by
    have e : ps.take (0 + 1) = [] ++ [q] := by rw [List.take_add_one, h]; rfl
    rw [e]
    refine ⟨rfl, fun r hr => ?_⟩
    rcases rk_snoc.mp hr with z | rfl
    · cases z
    · exact Int.le_refl _
  | i + 1, q, h => by
    have hi : i + 1 < ps.length := (List.getElem?_eq_some_iff.mp h).1
    have h0 : ps[i]? = some ps[i] := List.getElem?_eq_getElem (by omega)
    obtain ⟨l, le⟩ := fsts_last up h0
    have ul := up_le up h0 h
    have e : ps.take (i + 1 + 1) = ps.take (i + 1) ++ [q] := by rw [List.take_add_one, h]; rfl
    have b : ∀ r ∈ rk (ps.take (i + 1 + 1)), r ≤ q.1 := fun r hr => by
      rw [e] at hr
      rcases rk_snoc.mp hr with z | rfl
      · exact Int.le_trans (le r z) ul
      · exact Int.le_refl _
    refine ⟨?_, b⟩
    rw [e, fsts_rk]
    by_cases hm : q.1 ∈ rk (ps.take (i + 1))
    · rw [if_pos hm, l, Int.le_antisymm ul (le _ hm)]
    · rw [if_neg hm, List.getLast?_append]
      rfl
/-- another rank than the last one is a new one -/
theorem fsts_next {ps : List (Int × Str)} (up : Up ps ps.length) {i : Nat} {q : Int × Str} {r : Int} (h : ps[i]? = some q) (hl : (fsts (rk (ps.take i))).getLast? = some r) : q.1 ∈ rk (ps.take i) ↔ r = q.1 := by
  cases i with
  | zero => cases hl
  | succ i =>
    have hi : i + 1 < ps.length := (List.getElem?_eq_some_iff.mp h).1
    have h0 : ps[i]? = some ps[i] := List.getElem?_eq_getElem (by omega)
    obtain ⟨l, le⟩ := fsts_last up h0
    rw [l] at hl
    cases hl
    have ul := up_le up h0 h
    constructor
    · exact fun hm => Int.le_antisymm ul (le _ hm)
    · intro e
      rw [← e]
      exact mem_fsts.mp (List.mem_of_getLast? l)
theorem fsts_lenP (ps : List (Int × Str)) : (fsts (rk ps)).length ≤ ps.length := by
  have := fsts_len (rk ps)
  unfold rk at *
  rw [List.length_map] at this
  exact this
theorem blks_len {H : Hp} {ps : List (Int × Str)} {xs : List V} {rs : List Int} (h : Blks H xs ps rs) : xs.length = rs.length := Paired.length h
theorem paired_r {α β : Type} {R : α → β → Prop} : ∀ {xs : List α} {ys : List β} {i : Nat} {y : β}, Paired R xs ys → ys[i]? = some y → ∃ x, xs[i]? = some x ∧ R x y
  | _, _, 0, _, .cons h _, e => by
    cases e
    exact ⟨_, rfl, h⟩
  | _, _, n + 1, _, .cons _ r, e => paired_r (i := n) r e
theorem atI_last {xs : List V} {v : V} (h : 0 < xs.length) (h' : xs[xs.length - 1]? = some v) : atI xs (-1) = some v := by
  have e : ixN xs.length (-1) = some (xs.length - 1) := by
    unfold ixN
    rw [if_neg (by decide), if_pos (by omega)]
    exact congrArg some (by omega)
  unfold atI
  rw [e]
  exact h'
theorem eqv_nil {ps : List (Int × Str)} : ∀ {rs : List Int}, PyData.eqv (.list (rs.map (pdB ps))) (.list []) = true → rs = []
  | [], _ => rfl
  | _ :: _, h => by
    simp [PyData.eqv, PyData.eqvAll] at h
theorem blks_last {H : Hp} {ps : List (Int × Str)} : ∀ {xs : List V} {rs : List Int} {r : Int}, Blks H xs ps rs → rs.getLast? = some r → ∃ t, xs[xs.length - 1]? = some (.ref t) ∧ H t = some (.tup [.int r, .int (cnt r ps : Nat)]) := by
  intro xs rs r h e
  have hl := Paired.length h
  rw [List.getLast?_eq_getElem?] at e
  rw [hl]
  obtain ⟨v, hv, t, rfl, ht⟩ := paired_r h e
  exact ⟨t, hv, ht⟩
theorem new_none {H H' : Hp} {p : Addr} (f : H' p = none) (s : Same H H') : H p = none := by
  cases e : H p with
  | none => rfl
  | some o =>
    rw [s _ _ e] at f
    cases f
section
variable {P : Program} {w : World} {K : Fg} {mg : Str → Option Value} {base : Heap}
theorem ok_lblk {f fN : Addr} {fd fdN : FuncData} (F : FnP K "_law_blocks" "_law_blocks" s_lblk f fd) (FN : FnP K "_law_number" "_law_number" s_lnum fN fdN) (gN : mg "_law_number" = some (.ref fN)) (T : Txt K mg) : FnOk P w K mg base CX0 2 f fd ["_law_pairs_here"] (spLBlk K) := by
  have G_number : FnOk P w K mg base CX0 1 fN fdN ["_law_pairs_here", "_law_height"] (spLNum K) := ok_lnum FN T
  have b_number : Binds K fdN ["_law_pairs_here", "_law_height"] [] := FN.bindsN fun _ _ _ _ _ _ us hl => match us, hl with | [_, _], _ => rfl
  refine F.ok sc_lblk (fun vs H Q E h => ?_) (fun cdv A outer s H vs Q E hr h => ?_)
  · obtain ⟨f, ts, ps, rfl, _⟩ := h
    rfl
  · obtain ⟨f, ts, ps, rfl, hf, prs, hn, up, k⟩ := h
    refine ⟨_, PSs.nox (pss_cons (ps_set (i := 1) sc_lblk.nd rfl (Or.inl rfl) (pe_lstN pa_nil))
    (pss_cons (ps_for PassesOwn.never rfl (pi_list (pv 0)) (pg_tup (by rfl) (pgs_cons (pg_name (i := 2) sc_lblk.nd rfl (Or.inl rfl)) (pgs_cons (pg_name (i := 3) sc_lblk.nd rfl (Or.inl rfl)) pgs_nil)))
    (pss_one (ps_if (PW.pt (pw_or (pt_cmpR (eqDK K hr.units) (pv 1) (pe_lstN pa_nil) (nomark _)) (pw_or1 (pt_cmpR op_ne (pe_ix (ixt K) (pe_ix (ixl K) (pv 1) (pe_un un_neg pe_int) (fun _ _ => rfl)) pe_int (fun _ _ => rfl)) (pv 2) (nomark _))))) (pss_one (ps_expr (pe_bm PySem.F.plainAttrs_list PySem.F.slot_list_append PySem.F.type_list_append mt_append (pv 1) (pa_cons (pe_tupN (pa_cons (pv 2) (pa_cons (pe_call (E := E0) G_number (hr.mono (by decide)) rfl gN FN.kp b_number .nil pass0 (pa_cons (pv 0) (pa_cons (pv 2) pa_nil))) pa_nil))) pa_nil)))) pss_nil)))
    (pss_one (ps_ret (pv 1))))), ?_⟩
    have ll : ts.length = ps.length := Paired.length prs
    refine ⟨sz1000 (by show 0 ≤ 1000; decide), fun D H1 f1 m1 s1 g1 => ?_⟩
    dsimp only [gName]
    refine ⟨_, rfl, f, rfl, ⟨ts, s1.seq hf⟩, for_list (K := K) (a := f) (xs := ts) (fun i σ H' => ∃ (v n : Option V) (us : List V), σ = [some (.ref f), some (.ref D), v, n] ∧ Same H H' ∧ H' D = some (.lst us) ∧ Blks H' us ps (fsts (rk (ps.take i)))) ⟨none, none, [], rfl, s1, g1, .nil⟩ ?_ ?_ ?_⟩
    · rintro i σ H' _ ⟨_, _, _, _, s', _⟩
      exact s'.seq hf
    · rintro i x σ H2 hx ⟨v, n, us, rfl, s2, gD, B⟩
      obtain ⟨t, q, rfl, eq, ht⟩ := prs_at prs hx
      have tp : ps.take (i + 1) = ps.take i ++ [q] := by rw [List.take_add_one, eq]; rfl
      have ul : us.length ≤ 400 := by
        rw [blks_len B]
        exact Nat.le_trans (fsts_lenP _) (Nat.le_trans (List.length_take_le' _ _) hn)
      refine ⟨t, _, rfl, SqT.of (s2 _ _ ht), rfl, ?_⟩
      refine ⟨_, _, rfl, _, _, rfl, rfl, ?_⟩
      refine ⟨_, rfl, sz1000 (by show 0 ≤ 1000; decide), fun e H3 f3 m3 s3 g3 => ?_⟩
      have B3 := blks_keep (fun t xs z => s3 _ _ z) B
      refine ⟨_, _, .lst (SqL.of (s3 _ _ gD)) (dpBlks B3), .lst (SqL.of g3) .nil, shapedB _ _, shapedB ps [], ?_⟩
      have fin : ∀ {H5 : Hp} {t2 : Addr}, q.1 ∉ rk (ps.take i) → Same H2 H5 → H5 t2 = some (.tup [.int q.1, .int (cnt q.1 ps : Nat)]) → ∃ (v n : Option V) (us' : List V), [some (V.ref f), some (.ref D), some (.int q.1), some (.str q.2)] = [some (.ref f), some (.ref D), v, n] ∧ Same H (upd H5 D (.lst (us ++ [.ref t2]))) ∧ upd H5 D (.lst (us ++ [.ref t2])) D = some (.lst us') ∧ Blks (upd H5 D (.lst (us ++ [.ref t2]))) us' ps (fsts (rk (ps.take (i + 1)))) := fun {H5 t2} hm s5 g5 => by
        have g6 := s5 _ _ gD
        refine ⟨_, _, _, rfl, same_upd (s2.trans s5) f1, upd_same, ?_⟩
        rw [tp, fsts_rk, if_neg hm]
        have kp : ∀ t xs, H5 t = some (.tup xs) → upd H5 D (.lst (us ++ [.ref t2])) t = some (.tup xs) := fun t xs z => by
          rw [upd_ne (fun e => by
            rw [e, g6] at z
            cases z)]
          exact z
        exact blks_snoc (kp _ _ g5) (blks_keep (fun t xs z => kp _ _ (s5 _ _ z)) B)
      refine ⟨_, rfl, ite2 (fun h0 => ?_) (fun h0 => ?_)⟩
      · have hm : q.1 ∉ rk (ps.take i) := fun z => by
          have := mem_fsts.mpr z
          rw [eqv_nil h0] at this
          cases this
        refine iteT ?_
        refine ⟨_, rfl, .inl ⟨rfl, _, SqL.of (s3 _ _ gD)⟩, ?_⟩
        refine ⟨_, rfl, _, rfl, _, rfl, f, q.1, ts, ps, rfl, s3.seq (s2.seq hf), Prs.keep (fun t xs z => s3 _ _ (s2 _ _ z)) prs, hn, fun H4 s4 => ?_⟩
        refine ⟨sz1000 (by show 2 ≤ 1000; decide), fun t2 H5 f5 s5 g5 => ?_⟩
        have g6 := s5 _ _ (s4 _ _ (s3 _ _ gD))
        refine ⟨D, _, _, rfl, rfl, g6, Nat.lt_of_le_of_lt ul (by decide), ?_⟩
        exact fin hm (s3.trans (s4.trans s5)) g5
      · obtain ⟨r, hl⟩ : ∃ r, (fsts (rk (ps.take i))).getLast? = some r := by
          cases e : (fsts (rk (ps.take i))).getLast? with
          | some r => exact ⟨r, rfl⟩
          | none =>
            rw [List.getLast?_eq_none_iff] at e
            rw [e] at h0
            exact absurd rfl h0
        obtain ⟨t1, l1, l2⟩ := blks_last B3 hl
        have lu : 0 < us.length := by
          have := (List.getElem?_eq_some_iff.mp l1).1
          omega
        refine ⟨_, rfl, _, rfl, D, us, _, .ref t1, rfl, rfl, SqL.of (s3 _ _ gD), atI_last lu l1, ?_⟩
        refine ⟨t1, _, 0, .int r, rfl, rfl, SqT.of l2, rfl, _, rfl, rfl, _, rfl, ?_⟩
        refine ite2 (fun h1 => ?_) (fun h1 => ?_)
        · have hm : q.1 ∉ rk (ps.take i) := fun z => by
            rw [(fsts_next up eq hl).mp z] at h1
            simp at h1
          refine ⟨_, rfl, .inl ⟨rfl, _, SqL.of (s3 _ _ gD)⟩, ?_⟩
          refine ⟨_, rfl, _, rfl, _, rfl, f, q.1, ts, ps, rfl, s3.seq (s2.seq hf), Prs.keep (fun t xs z => s3 _ _ (s2 _ _ z)) prs, hn, fun H4 s4 => ?_⟩
          refine ⟨sz1000 (by show 2 ≤ 1000; decide), fun t2 H5 f5 s5 g5 => ?_⟩
          have g6 := s5 _ _ (s4 _ _ (s3 _ _ gD))
          refine ⟨D, _, _, rfl, rfl, g6, Nat.lt_of_le_of_lt ul (by decide), ?_⟩
          exact fin hm (s3.trans (s4.trans s5)) g5
        · have hm : q.1 ∈ rk (ps.take i) := (fsts_next up eq hl).mpr (by simpa using h1)
          exact ⟨_, _, us, rfl, s2.trans s3, s3 _ _ gD, by rw [tp, fsts_rk, if_pos hm]; exact B3⟩
    · rintro σ H2 ⟨v, n, us, rfl, s2, gD, B⟩
      rw [List.take_of_length_le (by omega)] at B
      exact ⟨_, rfl, k D H2 us f1 s2 gD B⟩
end
end K04
namespace K04
open PySem PySem.Spec PyProof.Rows L2 He Tw
theorem codeIn_ref {K : Fg} {v : Value} {q : Str} (h : PySem.W.codeIn K v q = true) : ∃ c, v = .ref c := by
  unfold PySem.W.codeIn at h
  split at h
  · exact ⟨_, rfl⟩
  · cases h
def lamName (q : Str) (sc : Scope) : Str := (envOfC q sc 0 0 .none).qual ++ "<lambda>"
abbrev s_plc : Stmt := topS 38
def Tb (K : Fg) : List (Addr × Str) := [(tabAt K (ga K "_law_places_right"), lamName "_law_places_right" (defScope s_plc))]
theorem tb_one {K : Fg} {p q : Addr × Str} (hp : p ∈ Tb K) (hq : q ∈ Tb K) (e : p.1 = q.1) : p.2 = q.2 := by
  rw [List.mem_singleton.mp hp, List.mem_singleton.mp hq]
section
variable {K : Fg} {H H' : Hp} {p l a f : Addr} {c c' : Nat} {ys ts : List V} {ps : List (Int × Str)}
theorem ints_vals : ∀ {xs : List Int}, (∀ r ∈ xs, rankOk (.int r) = true) → Vals' K H (xs.map V.int) (xs.map fun r => (r, ("" : Str)))
  | [], _ => .nil
  | _ :: _, h => .cons (.int (h _ List.mem_cons_self)) (ints_vals fun r hr => h r (List.mem_cons_of_mem _ hr))
theorem rk_ints (xs : List Int) : rk (xs.map fun r => (r, ("" : Str))) = xs := by
  unfold rk
  rw [List.map_map]
  exact List.map_id' xs
theorem rk_mem {r : Int} : 0 < cnt r ps ↔ r ∈ rk ps := by
  rw [← cnt_count]
  exact List.count_pos_iff
theorem cnt_dec (r : Int) (ps : List (Int × Str)) : decide ((0 : Int) < ((cnt r ps : Nat) : Int)) = decide (r ∈ rk ps) := by
  rw [Bool.eq_iff_iff, decide_eq_true_eq, decide_eq_true_eq, ← rk_mem]
  omega
theorem gd_big (gd : ∀ q ∈ ps, Gd q) {r : Int} (h : r ∈ rk ps) : r.natAbs ≤ 10 ^ 29 + 10 ^ 12 := by
  obtain ⟨q, hq, rfl⟩ := List.mem_map.mp h
  exact (gd q hq).1
/-- what stands while the law reads -/
structure Hv (K : Fg) (H : Hp) (p l : Addr) (c : Nat) (a f : Addr) (ys ts : List V) (ps : List (Int × Str)) : Prop where
  P : PenL H p l c
  ra : RowAt K H a ys
  its : Its K H ys ps
  hf : H f = some (.lst ts)
  prs : Prs H ts ps
  np : f ≠ p
  t : LamX.Tabs (Tb K) H
theorem Hv.same (s : Same H H') (h : Hv K H p l c a f ys ts ps) : Hv K H' p l c a f ys ts ps :=
  ⟨h.P.same s, h.ra.same s, h.its.same s, s _ _ h.hf, h.prs.keep fun t xs z => s _ _ z, h.np, h.t.ext s⟩
theorem pen_ne (P : PenL H p l c) {b : Addr} {o : HO} (h : H b = some o) (no : ∀ xs, o ≠ .lst xs) : b ≠ p := fun e => by
  obtain ⟨ns, i, g, h1, _⟩ := P
  rw [e, h1] at h
  exact no _ (Option.some.inj h).symm
theorem Hv.but (e : But p H H') (P' : PenL H' p l c') (h : Hv K H p l c a f ys ts ps) : Hv K H' p l c' a f ys ts ps := by
  obtain ⟨P, ⟨dx, t, h1, h2⟩, its, hf, prs, np, tt⟩ := h
  have kp : ∀ {b : Addr} {o : HO}, H b = some o → (∀ xs, o ≠ .lst xs) → H' b = some o := fun hb no => e _ _ hb (pen_ne P hb no)
  refine ⟨P', ⟨dx, t, kp h1 (fun _ z => nomatch z), kp h2 (fun _ z => nomatch z)⟩, ?_, e _ _ hf np, prs.keep fun t xs z => kp z (fun _ z => nomatch z), np, tabs_pen tt e P⟩
  clear h1 h2 prs
  induction its with
  | nil => exact .nil
  | cons h r ih =>
    obtain ⟨b, rfl, dx', hb⟩ := h
    exact .cons ⟨b, rfl, dx', kp hb (fun _ z => nomatch z)⟩ ih
theorem Hv.mono (h : Hv K H p l c a f ys ts ps) (hc : c ≤ c') : Hv K H p l c' a f ys ts ps := ⟨h.P.mono hc, h.ra, h.its, h.hf, h.prs, h.np, h.t⟩
theorem Hv.ext (e : LamX.ExtN H H') (T : LamX.Tabs (Tb K) H') (h : Hv K H p l c a f ys ts ps) : Hv K H' p l c a f ys ts ps := by
  obtain ⟨P, ⟨dx, t, h1, h2⟩, its, hf, prs, np, tt⟩ := h
  refine ⟨penN P e, ⟨dx, t, e _ _ h1 (fun _ z => nomatch z), e _ _ h2 (fun _ z => nomatch z)⟩, ?_, e _ _ hf (fun _ z => nomatch z), prs.keep fun t xs z => e _ _ z (fun _ z => nomatch z), np, T⟩
  clear h1 h2 prs
  induction its with
  | nil => exact .nil
  | cons h r ih =>
    obtain ⟨b, rfl, dx', hb⟩ := h
    exact .cons ⟨b, rfl, dx', e _ _ hb (fun _ z => nomatch z)⟩ ih
/-- values that are in no row, or a rank that is not there -/
inductive OddV (K : Fg) (H : Hp) (is : List Int) : V → Prop where
  | bv {x : V} {t : String} (h : Bv H x t) (b : isI x = false) : OddV K H is x
  | row {a : Addr} {ys : List V} (h : RowAt K H a ys) : OddV K H is (.ref a)
  | err {a d : Addr} {fs : List (Str × V)} (h : IsX H a (ga K "BadPlace") (some d)) (e : IsXd H d fs) : OddV K H is (.ref a)
  | int {i : Int} (h : i ∉ is) : OddV K H is (.int i)
theorem OddV.same {is : List Int} {x : V} (s : Same H H') (h : OddV K H is x) : OddV K H' is x := by
  cases h with
  | bv h b => exact .bv (h.same s) b
  | row h => exact .row (h.same s)
  | err h e => exact .err (h.same s) (e.same s)
  | int h => exact .int h
theorem rowTy {mg : Str → Option Value} (T : Txt K mg) {dx : Addr} {fs : List (Str × V)} (ha : H a = some (.ins (ga K "Row") dx fs)) : TyX K H (.ref a) (.ref (ga K "Row")) := .base (.ins ha T.clsR (T.ob (by decide +kernel)).2 T.xo.hn T.xo.ht (T.ob (by decide +kernel)).1)
theorem bv_kindI {mg : Str → Option Value} (T : Txt K mg) {x : V} {t : String} (h : Bv H x t) : PySem.W.kitOne K (.type t) (.ref (ga K "Item")) = some false := by
  cases h with
  | non => exact (T.kind (by decide +kernel)).1
  | bl b => exact (T.kind (by decide +kernel)).1
  | int i => exact (T.kind (by decide +kernel)).1
  | str z => exact (T.kind (by decide +kernel)).1
  | lst e => exact (T.kind (by decide +kernel)).1
  | tup e => exact (T.kind (by decide +kernel)).1
  | dK e => exact (T.kind (by decide +kernel)).1
theorem OddV.no {mg : Str → Option Value} (T : Txt K mg) {is : List Int} {x : V} (h : OddV K H is x) : NoNum K H x ∨ ∃ i, x = .int i ∧ i ∉ is := by
  cases h with
  | @bv x t h b =>
    obtain ⟨k1, k2, k3⟩ := h.kits (K := K)
    rw [b, Bool.false_or] at k3
    refine .inl ⟨_, .inl h.ty, bv_kindI T h, ?_⟩
    cases hb : isB x with
    | false => exact .inl (by rw [k3, hb])
    | true => exact .inr ⟨by rw [k3, hb], by rw [k2, hb]⟩
  | row h =>
    obtain ⟨dx, t, h1, h2⟩ := h
    exact .inl ⟨_, .inl (rowTy T h1), T.kitC (p := ("Row", "Item")) (by decide +kernel), .inl (T.kitI (c := "Row") (by decide +kernel))⟩
  | err h e => exact .inl ⟨_, .inr ⟨_, _, _, _, rfl, rfl, h, e, T.xc (e := ("BadPlace", 6, "at")) (by decide +kernel), T.xo⟩, T.kitC (p := ("BadPlace", "Item")) (by decide +kernel), .inl (T.kitI (c := "BadPlace") (by decide +kernel))⟩
  | int h => exact .inr ⟨_, rfl, h⟩
theorem has_any {Q : VK} {x : V} (ra : RowAt K H a ys) (its : Its K H ys ps) (few : ps.length ≤ 400) (b : Bool)
    (h : (∃ (d : Addr) (r : Int) (z : Str), x = .ref d ∧ It K H d r z ∧ b = decide (r ∈ rk ps)) ∨ (∃ i : Int, x = .int i ∧ b = decide (i ∈ rk ps)) ∨ (NoNum K H x ∧ b = false)) (k : ∀ H', Same H H' → Q (.bl b) H') : rHasOwn (ga K "Row") (spHas K) E0 x (.ref a) H Q := by
  obtain ⟨dx, t, ha, ht⟩ := id ra
  refine ⟨a, dx, _, rfl, ha, a, x, ys, ps, rfl, ra, its, few, ?_⟩
  rcases h with ⟨d, r, z, rfl, hI, rfl⟩ | ⟨i, rfl, rfl⟩ | ⟨hn, rfl⟩
  · exact .inl ⟨d, r, z, rfl, hI, fun H' s => ⟨_, rfl, k H' s⟩⟩
  · exact .inr (.inl ⟨i, rfl, fun H' s => ⟨_, rfl, k H' s⟩⟩)
  · exact .inr (.inr ⟨hn, fun H' s => ⟨_, rfl, k H' s⟩⟩)
theorem has_odd {mg : Str → Option Value} (T : Txt K mg) {Q : VK} {x : V} {is : List Int} (ra : RowAt K H a ys) (its : Its K H ys ps) (few : ps.length ≤ 400) (h : OddV K H is x) (sub : ∀ i ∈ rk ps, i ∈ is) (k : ∀ H', Same H H' → Q (.bl false) H') : rHasOwn (ga K "Row") (spHas K) E0 x (.ref a) H Q := by
  rcases h.no T with h | ⟨i, rfl, hi⟩
  · exact has_any ra its few false (.inr (.inr ⟨h, rfl⟩)) k
  · exact has_any ra its few false (.inr (.inl ⟨i, rfl, (decide_eq_false fun z => hi (sub i z)).symm⟩)) k
end
end K04
namespace K04
open PySem PySem.Spec PyProof.Rows L2 He Tw
abbrev s_mem : Stmt := topS 40
abbrev N_mem : List Str := ["_law_pen_here", "_law_row", "_law_pairs_here", "_law_height", "_law_pair", "_law_there", "_law_found", "_law_one", "_law_odd", "_law_thing"]
theorem sc_mem : FnScope N_mem ["_law_pen_here", "_law_row", "_law_pairs_here"] (defScope s_mem) := ⟨rfl, rfl, rfl, by decide +kernel, rfl, by decide +kernel, by decide +kernel⟩
def spMem (K : Fg) : Sp := fun vs H Q _ => ∃ (p l a f : Addr) (c : Nat) (ys ts : List V) (ps : List (Int × Str)), vs = [.ref p, .ref a, .ref f] ∧ Hv K H p l c a f ys ts ps ∧ c ≤ 800000 ∧ ps.length ≤ 30 ∧ (∀ q ∈ ps, Gd q) ∧ ∀ H', Hv K H' p l (c + 1) a f ys ts ps → Q (.bl true) H'
theorem up01 : Up (([0, 1] : List Int).map fun r => (r, ("" : Str))) (([0, 1] : List Int).map fun r => (r, ("" : Str))).length := asc_up (by decide)
theorem up1 (r : Int) : Up (([r] : List Int).map fun r => (r, ("" : Str))) (([r] : List Int).map fun r => (r, ("" : Str))).length := asc_up (List.pairwise_singleton _ _)
theorem iteFe {b : Bool} {A B : Prop} (e : b = false) (h : B) : if b = true then A else B := by
  rw [e]
  exact h
section
variable {P : Program} {w : World} {K : Fg} {mg : Str → Option Value} {base : Heap} {fd : Nat → FuncData}
theorem ok_mem (D : DefsK K fd) (T : Txt K mg) : FnOk P w K mg base CX0 8 (ga K "_law_members_right") (fd 44) ["_law_pen_here", "_law_row", "_law_pairs_here"] (spMem K) := by
  have F : FnP K "_law_members_right" "_law_members_right" s_mem (ga K "_law_members_right") (fd 44) := D 44 _ rfl
  have FP : FnP K "_law_pick" "_law_pick" s_pick (ga K "_law_pick") (fd 35) := D 35 _ rfl
  have FN : FnP K "_law_number" "_law_number" s_lnum (ga K "_law_number") (fd 40) := D 40 _ rfl
  have FR : FnP K "number" "Row.number" s_numr (ma K (ga K "Row") "number") (fd 49) := D 49 _ rfl
  have FH : FnP K "__contains__" "Row.__contains__" s_has (ma K (ga K "Row") "__contains__") (fd 54) := D 54 _ rfl
  have gP : mg "_law_pick" = some (.ref (ga K "_law_pick")) := T.fn (by decide +kernel)
  have gN : mg "_law_number" = some (.ref (ga K "_law_number")) := T.fn (by decide +kernel)
  have gI : mg "Item" = some (.ref (ga K "Item")) := T.cl (by decide +kernel)
  have gR : mg "Row" = some (.ref (ga K "Row")) := T.cl (by decide +kernel)
  have gB : mg "BadPlace" = some (.ref (ga K "BadPlace")) := T.cl (by decide +kernel)
  have G_pick : FnOk P w K mg base CX0 2 _ (fd 35) ["_law_pen_here", "_law_some"] (spPickL K) := ok_pick FP (D 34 _ rfl) (T.fn (x := "_law_draw") (by decide +kernel)) T
  have b_pick : Binds K (fd 35) ["_law_pen_here", "_law_some"] [] := FP.bindsN fun _ _ _ _ _ _ us hl => match us, hl with | [_, _], _ => rfl
  have G_lnum : FnOk P w K mg base CX0 1 _ (fd 40) ["_law_pairs_here", "_law_height"] (spLNum K) := ok_lnum FN T
  have b_lnum : Binds K (fd 40) ["_law_pairs_here", "_law_height"] [] := FN.bindsN fun _ _ _ _ _ _ us hl => match us, hl with | [_, _], _ => rfl
  have G_numr : FnOk P w K mg base CX0 2 _ (fd 49) ["self", "rank"] (spNumR K) := ok_numr FR (D 48 _ rfl) T
  have b_numr : Binds K (fd 49) ["self", "rank"] [] := FR.bindsN fun _ _ _ _ _ _ us hl => match us, hl with | [_, _], _ => rfl
  have k_numr : KBn K (fd 49) ["self", "rank"] 1 ["rank"] (fun us ws => us ++ ws) (fun vs zs => vs ++ zs) := kbNone FR 1 ["rank"] fun _ _ _ _ _ _ us ws h1 h2 => match us, h1, ws, h2 with | [_], _, [_], _ => rfl
  have G_has : FnOk P w K mg base CX0 2 _ (fd 54) ["self", "x"] (spHas K) := ok_has FH (D 48 _ rfl) (D 24 _ rfl) T
  have b_has : Binds K (fd 54) ["self", "x"] [] := FH.bindsN fun _ _ _ _ _ _ us hl => match us, hl with | [_, _], _ => rfl
  have mH := T.mtR2 (m := "__contains__") (by decide +kernel)
  have mM := T.mtR2 (m := "number") (by decide +kernel)
  obtain ⟨d2, I⟩ := itm (P := P) (w := w) (base := base) D T
  have Gr := G_row (P := P) (w := w) (mg := mg) (base := base) D T
  have mB : (("BadPlace", 6, "at") : Str × Nat × Str) ∈ errs := by decide +kernel
  obtain ⟨iB, tB⟩ := T.ini mB
  have G_bad : FnOk P w K mg base CX0 1 _ (fd 1) ["self", "at"] (spIni (ga K "BadPlace") "at") := ok_BadPlace (D 1 _ rfl) T
  have b_bad : Binds K (fd 1) ["self", "at"] [] := (show FnP K "__init__" "BadPlace.__init__" (s_err 6) (ma K (ga K "BadPlace") "__init__") (fd 1) from D 1 _ rfl).bindsN fun _ _ _ _ _ _ us hl => match us, hl with | [_, _], _ => rfl
  refine F.ok sc_mem (fun vs H Q E h => ?_) (fun cdv A outer s H vs Q E hr h => ?_)
  · obtain ⟨p, l, a, f, c, ys, ts, ps, rfl, _⟩ := h
    rfl
  · obtain ⟨p, l, a, f, c, ys, ts, ps, rfl, V0, hc, few, gd, k⟩ := h
    refine ⟨_, PSs.nox (pss_cons (ps_set (i := 3) sc_mem.nd rfl (Or.inl rfl) (pe_call (E := E0) G_pick (hr.mono (by decide)) rfl gP FP.kp b_pick .nil pass0 (pa_cons (pv 0) (pa_cons (pe_op op_catN (pe_lc (own := [("_law_pair", 4)]) (g := gName 4) (tt := tYes) (by rfl) sc_mem.nd (pi_list (pv 2)) (blkOk_by (own := [("_law_pair", 4)]) (N := N_mem) (sc := defScope s_mem) (by decide +kernel)) (fun _ _ _ _ _ => (pg_name (i := 4) sc_mem.nd rfl (Or.inl rfl))) (fun _ _ _ _ _ => pts_nil) (fun _ _ _ _ _ => (pe_ix (ixt K) (pv 4) pe_int (fun _ _ => rfl)))) (pe_lstN (pa_cons pe_int (pa_cons pe_int (pa_cons (pe_un un_neg pe_int) (pa_cons (pe_op op_pow pe_int pe_int) pa_nil)))))) pa_nil))))
    (pss_cons (ps_set (i := 5) sc_mem.nd rfl (Or.inl rfl) (pe_cmpR op_gt (pe_call (E := E0) G_lnum (hr.mono (by decide)) rfl gN FN.kp b_lnum .nil pass0 (pa_cons (pv 2) (pa_cons (pv 3) pa_nil))) pe_int (nomark _)))
    (pss_cons (ps_set (i := 6) sc_mem.nd rfl (Or.inl rfl) (pe_lstN (pa_cons (pe_cmpR (op_inOwn (E := E0) mH.at_ mH.fn G_has (hr.mono (by decide)) b_has pass0) (pv 3) (pv 1) rfl) (pa_cons (pe_cmpR (op_inOwn (E := E0) mH.at_ mH.fn G_has (hr.mono (by decide)) b_has pass0) (pe_make (E := E0) T.mkI I.ok (hr.mono (by decide)) rfl gI I.b .nil passL (pa_cons (pv 3) (pa_cons pe_str pa_nil))) (pv 1) rfl) (pa_cons (pe_cmpR (op_inOwn (E := E0) mH.at_ mH.fn G_has (hr.mono (by decide)) b_has pass0) (pe_op op_add (pv 3) (pe_op op_pow pe_int pe_int)) (pv 1) rfl) pa_nil)))))
    (pss_cons (ps_if (pt_cmpR (op_neD hr.units) (pv 6) (pe_lstN (pa_cons (pv 5) (pa_cons (pv 5) (pa_cons (pe_cmpR op_gt (pe_call (E := E0) G_lnum (hr.mono (by decide)) rfl gN FN.kp b_lnum .nil pass0 (pa_cons (pv 2) (pa_cons (pe_op op_add (pv 3) (pe_op op_pow pe_int pe_int)) pa_nil))) pe_int (nomark _)) pa_nil)))) (nomark _)) (pss_one (ps_ret pe_bl)) pss_nil)
    (pss_cons (ps_if (PW.pt (pw_or (pt_cmpR op_ne (pe_methN (E := E0) (pv 1) T.clsR mM G_numr (hr.mono (by decide)) k_numr pass0 (pk_cons (pv 3) pk_nil)) (pe_call (E := E0) G_lnum (hr.mono (by decide)) rfl gN FN.kp b_lnum .nil pass0 (pa_cons (pv 2) (pa_cons (pv 3) pa_nil))) (nomark _)) (pw_or1 (pt_cmpR op_ne (pe_meth (E := E0) (pv 1) T.clsR mM G_numr (hr.mono (by decide)) b_numr .nil pass0 (pa_cons (pe_op op_pow pe_int pe_int) pa_nil)) pe_int (nomark _))))) (pss_one (ps_ret pe_bl)) pss_nil)
    (pss_cons (ps_set (i := 7) sc_mem.nd rfl (Or.inr rfl) (pe_make (E := E0) T.mkR Gr (hr.mono (by decide)) rfl gR (bRow D) .nil passL (pa_cons (pe_lstN (pa_cons pe_int (pa_cons pe_int pa_nil))) pa_nil)))
    (pss_cons (ps_set (i := 8) sc_mem.nd rfl (Or.inl rfl) (pe_lstN (pa_cons pe_bl (pa_cons pe_bl (pa_cons pe_non (pa_cons pe_str (pa_cons pe_str (pa_cons (pe_tupN (pa_cons pe_int pa_nil)) (pa_cons (pe_lstN (pa_cons pe_int pa_nil)) (pa_cons pe_dnewN (pa_cons (pe_op op_pow pe_int pe_int) (pa_cons (pe_tupN (pa_cons (pv 3) pa_nil)) (pa_cons pe_str (pa_cons (pe_make (E := E0) T.mkR Gr (hr.mono (by decide)) rfl gR (bRow D) .nil passL (pa_cons (pe_lstN (pa_cons (pv 3) pa_nil)) pa_nil)) (pa_cons (pe_mkX (T.xc mB).ox iB tB G_bad (hr.mono (by decide)) b_bad .nil pass0 rfl gB (pa_cons pe_int pa_nil)) pa_nil)))))))))))))))
    (pss_one (ps_ret (pe_cmpR (op_eqD hr.units) (pe_lc (own := [("_law_thing", 9)]) (g := gName 9) (by rfl) sc_mem.nd (pi_list (pv 8)) (blkOk_by (own := [("_law_thing", 9)]) (N := N_mem) (sc := defScope s_mem) (by decide +kernel)) (fun _ _ _ _ _ => (pg_name (i := 9) sc_mem.nd rfl (Or.inl rfl))) (fun _ _ _ _ _ => pts_one (PW.pt (pw_or (pt_cmpR (op_inOwn (E := E0) mH.at_ mH.fn G_has (hr.mono (by decide)) b_has pass0) (pv 9) (pv 7) rfl) (pw_or1 (pt_cmpR (op_inOwn (E := E0) mH.at_ mH.fn G_has (hr.mono (by decide)) b_has pass0) (pv 9) (pv 1) rfl))))) (fun _ _ _ _ _ => (pv 9))) (pe_lstN pa_nil) (nomark _))))))))))), ?_⟩
    have lt : ts.length = ps.length := Paired.length V0.prs
    have lr : (rk ps).length = ps.length := by unfold rk; rw [List.length_map]
    refine ⟨_, rfl, _, rfl, f, rfl, ⟨ts, SqL.of V0.hf⟩, fun D1 hD1 => lc_list (K := K) (a := f) (xs := ts) (fun i H' => Same H H' ∧ H' D1 = some (.lst (((rk ps).take i).map V.int))) ⟨same_new hD1, upd_same⟩ (fun i H' _ q => SqL.of (q.1 _ _ V0.hf)) ?_ ?_⟩
    · rintro j x H' hx ⟨sD, gD⟩
      obtain ⟨t, q, rfl, eq, ht⟩ := prs_at V0.prs hx
      refine ⟨rfl, _, rfl, t, _, 0, .int q.1, rfl, rfl, SqT.of (sD _ _ ht), rfl, _, gD, ?_, same_upd sD hD1, ?_⟩
      · rw [List.length_map]
        exact Nat.lt_of_le_of_lt (List.length_take_le' _ _) (Nat.lt_of_le_of_lt (show (rk ps).length ≤ 30 by omega) (by decide))
      · rw [upd_same, List.take_add_one, show (rk ps)[j]? = some q.1 by unfold rk; rw [List.getElem?_map, eq]; rfl, Option.toList_some, List.map_append]
        rfl
    rintro G1 ⟨s1, g1⟩
    rw [List.take_of_length_le (by omega)] at g1
    refine ⟨_, rfl, _, _, rfl, rfl, (by unfold CPow; decide), sz1000 (by show 4 ≤ 1000; decide), fun e1 G2 f2 m2 s2 g2 => ?_⟩
    refine ⟨D1, e1, _, _, rfl, rfl, s2 _ _ g1, g2, sz1000 (by rw [List.length_map]; show (rk ps).length + 4 ≤ 1000; omega), fun e2 G3 f3 m3 s3 g3 => ?_⟩
    have V3 := ((V0.same s1).same s2).same s3
    refine ⟨p, l, e2, _, c, rfl, SqL.of g3, (((V0.same s1).same s2).P.new f3).1, by rw [List.length_append]; show 0 < _ + 4; omega, by rw [List.length_append, List.length_map]; show (rk ps).length + 4 < 1000; omega, V3.P, by omega, fun v G4 hv P4 B4 => ?_⟩
    have V4 := V3.but B4 P4
    obtain ⟨r, rfl, hr9⟩ : ∃ r : Int, v = .int r ∧ r.natAbs ≤ 10 ^ 29 + 10 ^ 12 := by
      rcases List.mem_append.mp hv with h | h
      · obtain ⟨i, hi, rfl⟩ := List.mem_map.mp h
        exact ⟨i, rfl, gd_big gd hi⟩
      · simp only [List.mem_cons, List.not_mem_nil, or_false] at h
        rcases h with rfl | rfl | rfl | rfl
        all_goals exact ⟨_, rfl, by decide⟩
    refine ⟨_, rfl, _, rfl, f, r, ts, ps, rfl, SqL.of V4.hf, V4.prs, by omega, fun G5 s5 => ?_⟩
    have V5 := V4.same s5
    refine ⟨_, _, rfl, rfl, ?_⟩
    have rok : rankOk (.int r) = true := by
      unfold rankOk beyond
      simp only [Bool.and_eq_true, decide_eq_true_eq]
      omega
    -- the three readings
    refine ⟨_, rfl, _, rfl, has_any V5.ra V5.its (by omega) _ (.inr (.inl ⟨r, rfl, rfl⟩)) fun G6 s6 => ?_⟩
    have V6 := V5.same s6
    refine ⟨_, rfl, fun x1 dx1 h1 h2 h3 => item_mk h1 h2 h3 rok (by decide +kernel) (by decide +kernel) fun G7 I7 s7 => ⟨rfl, ?_⟩⟩
    have V7 := V6.same s7
    refine ⟨_, rfl, has_any V7.ra V7.its (by omega) _ (.inl ⟨x1, r, "other", rfl, I7, rfl⟩) fun G8 s8 => ?_⟩
    have V8 := V7.same s8
    refine ⟨_, rfl, _, _, rfl, rfl, (by unfold CPow; decide), _, _, rfl, rfl, _, rfl, has_any V8.ra V8.its (by omega) _ (.inr (.inl ⟨_, rfl, rfl⟩)) fun G9 s9 => ?_⟩
    have V9 := V8.same s9
    refine ⟨sz1000 (by show 3 ≤ 1000; decide), fun e3 G10 f10 m10 s10 g10 => ?_⟩
    have V10 := V9.same s10
    refine ⟨_, rfl, _, rfl, _, rfl, _, rfl, _, rfl, _, _, rfl, rfl, (by unfold CPow; decide), _, _, rfl, rfl, f, _, ts, ps, rfl, SqL.of V10.hf, V10.prs, by omega, fun G11 s11 => ?_⟩
    refine ⟨_, _, rfl, rfl, ?_⟩
    refine ⟨sz1000 (by show 3 ≤ 1000; decide), fun e4 G12 f12 m12 s12 g12 => ?_⟩
    have V12 := (V10.same s11).same s12
    generalize hbs : [decide (r ∈ rk ps), decide (r ∈ rk ps), decide (r + 10 ^ (20 : Int).toNat ∈ rk ps)] = bs
    have e10 : G12 e3 = some (.lst (bs.map V.bl)) := by
      rw [← hbs]
      exact s12 _ _ (s11 _ _ g10)
    have e12 : G12 e4 = some (.lst (bs.map V.bl)) := by
      rw [g12, ← hbs]
      show some (HO.lst [V.bl (decide ((0 : Int) < ((cnt r ps : Nat) : Int))), V.bl (decide ((0 : Int) < ((cnt r ps : Nat) : Int))), V.bl (decide ((0 : Int) < ((cnt (r + 10 ^ (20 : Int).toNat) ps : Nat) : Int)))]) = _
      rw [cnt_dec, cnt_dec]
      rfl
    refine ⟨.list (bs.map .bool), .list (bs.map .bool), .lst (SqL.of e10) (dpBools bs), .lst (SqL.of e12) (dpBools bs), shapedBools _, shapedBools _, _, rfl, ?_⟩
    refine ifSame (eqvBools _) ?_
    clear e10 e12 g10 g12 hbs
    -- number by keyword
    obtain ⟨dx, t, ha, ht⟩ := id V12.ra
    have ln := its_len V12.its
    refine ⟨_, rfl, a, dx, _, rfl, ha, rfl, _, rfl, rfl, a, ys, ps, r, rfl, V12.ra, V12.its, by omega, fun G13 s13 => ?_⟩
    have V13 := V12.same s13
    refine ⟨_, rfl, _, rfl, f, r, ts, ps, rfl, SqL.of V13.hf, V13.prs, by omega, fun G14 s14 => ⟨rfl, _, rfl, ?_⟩⟩
    have V14 := V13.same s14
    rw [decide_eq_true rfl]
    refine iteF ?_
    refine ⟨_, rfl, a, dx, _, rfl, s14 _ _ (s13 _ _ ha), rfl, _, _, rfl, rfl, (by unfold CPow; decide), a, ys, ps, _, rfl, V14.ra, V14.its, by omega, fun G15 s15 => ⟨rfl, _, rfl, ?_⟩⟩
    have V15 := V14.same s15
    have n59 : (10 : Int) ^ (59 : Int).toNat ∉ rk ps := fun z => absurd (gd_big gd z) (by decide)
    refine iteFe (by rw [cnt_zero n59]; rfl) ?_
    -- a row of its own
    refine ⟨sz1000 (by show 2 ≤ 1000; decide), fun e5 G16 f16 m16 s16 g16 => ?_⟩
    refine fun x2 dx2 h4 h5 h6 => row_to h4 h5 h6 (vals_src (.inl (SqL.of g16)) (ints_vals (xs := [0, 1]) (by decide)) (by decide)) (up01) (by decide) fun G17 ys1 s17 ra1 its1 => ⟨rfl, ?_⟩
    have V17 := (V15.same s16).same s17
    refine ⟨sz1000 (by show 1 ≤ 1000; decide), fun t1 G18 f18 s18 g18 => ?_⟩
    refine ⟨sz1000 (by show 1 ≤ 1000; decide), fun e6 G19 f19 m19 s19 g19 => ?_⟩
    intro d0 G20 f20 m20 s20 g20
    refine ⟨_, _, rfl, rfl, (by unfold CPow; decide), _, rfl, sz1000 (by show 1 ≤ 1000; decide), fun t2 G21 f21 s21 g21 => ?_⟩
    refine ⟨_, rfl, sz1000 (by show 1 ≤ 1000; decide), fun e7 G22 f22 m22 s22 g22 => ?_⟩
    refine fun x3 dx3 h7 h8 h9 => row_to h7 h8 h9 (vals_src (.inl (SqL.of g22)) (ints_vals (xs := [r]) (fun i hi => by rw [List.mem_singleton.mp hi]; exact rok)) (by show 1 ≤ 900; decide)) (up1 r) (by show 1 ≤ 200; decide) fun G23 ys2 s23 ra2 its2 => ⟨rfl, ?_⟩
    refine ⟨by decide, fun a7 h10 => ?_⟩
    refine ⟨a7, .int 1, rfl, upd_same, fun d G24 hd hda x1' x2' x3' => ⟨rfl, ?_⟩⟩
    have s24 : Same G23 G24 := same_but (same_new h10) x3' h10
    refine ⟨sz1000 (by show 13 ≤ 1000; decide), fun e8 G25 f25 m25 s25 g25 => ?_⟩
    have T24 := s25
    have T23 := s24.trans s25
    have T22 := s23.trans T23
    have T21 := s22.trans T22
    have T20 := s21.trans T21
    have T19 := s20.trans T20
    have T18 := s19.trans T19
    have T17 := s18.trans T18
    have V25 := V17.same T17
    have odd : ∀ x ∈ ([.bl true, .bl false, .non, .str "0", .str "", .ref t1, .ref e6, .ref d0, .int (10 ^ (59 : Int).toNat), .ref t2, .str "1", .ref x3, .ref a7] : List V), OddV K G25 ([0, 1] ++ rk ps) x := fun x hx => by
      simp only [List.mem_cons, List.not_mem_nil, or_false] at hx
      rcases hx with rfl | rfl | rfl | rfl | rfl | rfl | rfl | rfl | rfl | rfl | rfl | rfl | rfl
      · exact .bv (.bl _) rfl
      · exact .bv (.bl _) rfl
      · exact .bv .non rfl
      · exact .bv (.str _) rfl
      · exact .bv (.str _) rfl
      · exact .bv (.tup (T18 _ _ g18)) rfl
      · exact .bv (.lst (T19 _ _ g19)) rfl
      · exact .bv (.dK (T20 _ _ g20)) rfl
      · exact .int fun z => (List.mem_append.mp z).elim (fun z => absurd z (by decide)) n59
      · exact .bv (.tup (T21 _ _ g21)) rfl
      · exact .bv (.str _) rfl
      · exact .row (ra2.same T23)
      · exact .err (.inl (s25 _ _ x1')) (.inl (s25 _ _ x2'))
    refine ⟨_, rfl, e8, rfl, ⟨_, SqL.of g25⟩, fun D2 hD2 => lc_list (K := K) (a := e8) (fun i H' => Same G25 H' ∧ H' D2 = some (.lst [])) ⟨same_new hD2, upd_same⟩ (fun i H' _ q => SqL.of (q.1 _ _ g25)) ?_ ?_⟩
    · rintro j x H' hx ⟨sD, gD⟩
      have o := (odd x (List.mem_of_getElem? hx)).same sD
      refine ⟨rfl, _, rfl, _, rfl, has_odd T (ra1.same (T17.trans sD)) (its1.same (T17.trans sD)) (by decide) o (fun i hi => by rw [rk_ints] at hi; exact List.mem_append_left _ hi) fun Ga sa => ⟨_, rfl, iteF ?_⟩⟩
      have V26 := (V25.same sD).same sa
      exact ⟨_, rfl, _, rfl, has_odd T V26.ra V26.its (by omega) (o.same sa) (fun i hi => List.mem_append_right _ hi) fun Gb sb => ⟨_, rfl, iteF ⟨(sD.trans sa).trans sb, sb _ _ (sa _ _ gD)⟩⟩⟩
    rintro G26 ⟨s26, g26⟩
    refine ⟨sz1000 (by show 0 ≤ 1000; decide), fun e9 G27 f27 m27 s27 g27 => ?_⟩
    refine ⟨.list [], .list [], .lst (SqL.of (s27 _ _ g26)) .nil, .lst (SqL.of g27) .nil, shapedBools [], shapedBools [], ?_⟩
    rw [show PyData.eqv (.list []) (.list []) = true from eqvBools []]
    exact k G27 (((V25.same s26).same s27).mono (by omega))
end
end K04
/-! Tw: items() of a written dict walked, a property's facts, str of a list of data. -/
namespace Tw
open PySem PySem.Spec PyProof.Rows L2 He
def valRef : Value → Addr → Bool
  | .ref a, b => a == b
  | _, _ => false
def keyStr : Value → Str → Bool
  | .str z _, y => decide (z = y)
  | _, _ => false
def entsL (f : Str → Addr) : List DictEntry → List Str → Bool
  | [], [] => true
  | e :: es, z :: zs => keyStr e.key z && (valRef e.val (f z) && entsL f es zs)
  | _, _ => false
/-- the written dict at d has just these keys in this order, and at each the object that f names -/
def entsB (K : Fg) (d : Addr) (f : Str → Addr) (zs : List Str) : Bool := match K.lookup d with
  | some o => match o.data with
    | .dict es _ => entsL f es.toList zs
    | _ => false
  | none => false
structure Ents (es : Array DictEntry) (f : Str → Addr) (zs : List Str) : Prop where
  size : es.size = zs.length
  get : ∀ i (h : i < es.size), ∃ z t, zs[i]? = some z ∧ es[i].key = .str z t ∧ es[i].val = .ref (f z)
theorem keyStr_ok {v : Value} {z : Str} (h : keyStr v z = true) : ∃ t, v = .str z t := by
  unfold keyStr at h
  split at h
  · exact ⟨_, by rw [of_decide_eq_true h]⟩
  · exact nomatch h
theorem valRef_ok {v : Value} {a : Addr} (h : valRef v a = true) : v = .ref a := by
  unfold valRef at h
  split at h
  · rw [beq_iff_eq.mp h]
  · exact nomatch h
theorem entsL_ok {f : Str → Addr} : ∀ {es : List DictEntry} {zs : List Str}, entsL f es zs = true → es.length = zs.length ∧ ∀ (i : Nat) (e : DictEntry), es[i]? = some e → ∃ (z : Str) (t : Tok), zs[i]? = some z ∧ e.key = .str z t ∧ e.val = .ref (f z)
  | [], [], _ => ⟨rfl, fun i e h => nomatch h⟩
  | e :: es, z :: zs, h => by
    obtain ⟨h1, h⟩ := ba h
    obtain ⟨h2, h3⟩ := ba h
    obtain ⟨l, r⟩ := entsL_ok h3
    refine ⟨congrArg Nat.succ l, fun i x hx => ?_⟩
    cases i with
    | zero =>
      cases hx
      obtain ⟨t, e1⟩ := keyStr_ok h1
      exact ⟨z, t, rfl, e1, valRef_ok h2⟩
    | succ i => exact r i x hx
  | [], _ :: _, h => nomatch h
  | _ :: _, [], h => nomatch h
theorem entsB_ok {K : Fg} {w : World} {d : Addr} {f : Str → Addr} {zs : List Str} {es : Array DictEntry} {n : Nat} (h : entsB K d f zs = true) (D : KDict K w d es n) : Ents es f zs := by
  unfold entsB at h
  rw [D.at_] at h
  obtain ⟨l, r⟩ := entsL_ok h
  refine ⟨by simpa using l, fun i hi => r i es[i] ?_⟩
  simp [hi]
/-- the pairs of a written dict, each a new tuple -/
def ItKi (f : Str → Addr) (zs : List Str) : It :=
  ⟨fun i _ => i < zs.length, fun i H x H' => ∃ T z, zs[i]? = some z ∧ x = .ref T ∧ H T = none ∧ H' = upd H T (.tup [.str z, .ref (f z)]), fun i _ => zs.length ≤ i⟩
section
variable {K : Fg} {w : World} {d : Addr} {es : Array DictEntry} {n : Nat} {f : Str → Addr} {zs : List Str}
theorem kd_raw {h : Heap} (D : KDict K w d es n) (Y : K.In h) : h.DictRaw d es n := ⟨_, Y d _ D.at_, ⟨rfl, rfl, rfl⟩, rfl⟩
theorem turn_itemsK {P : Program} {elts : List Expr} {kk : Nat} {tpos : Pos} (it : Addr) (D : KDict K w d es n) (N : Ents es f zs) :
    Turn P w K (.Tuple elts kk tpos) (ItKi f zs) [it] it (fun i h => ∃ ok ov, IsItemIter h it d i es.size n ok ov) where
  mem := by simp
  obj := fun i h st b hb => by
    have e : b = it := by simpa using hb
    subst e
    obtain ⟨ok, ov, e⟩ := st
    exact ⟨_, e, fun v z => nomatch z⟩
  keep := fun i h h' st k => let ⟨ok, ov, e⟩ := st; ⟨ok, ov, k it (by simp) _ e⟩
  item := by
    intro X hP hw hK hc i pins s σ H E I hf st hg
    subst hP hw hK
    have hi : i < es.size := by rw [N.size]; exact hg
    obtain ⟨z, t, hz, ek, ev⟩ := N.get i hi
    obtain ⟨ok, ov, he⟩ := st
    have hlt : it < s.heap.objs.size := Heap.lt_size he
    refine wpAny_pyNext_items_item_raw he (kd_raw D I.kIn) hi fun h' ho hT hs hk => ?_
    refine ⟨_, rfl, wpAny_letOwnedTupleGo_items (s := { s with heap := h' }) ho fun h'' he' sb => ?_⟩
    have hT2 : h''.get? s.heap.objs.size = some { cls := .type "tuple", data := .seq #[es[i].key, es[i].val] } := (sb.2 _ (Nat.ne_of_gt hlt)).trans hT
    have new : ObjOk X.prog X.w (upd H s.heap.objs.size (.tup [.str z, .ref (f z)])) h'' s.heap.objs.size (.tup [.str z, .ref (f z)]) :=
      ⟨by show 2 ≤ sizeLine; decide, [es[i].key, es[i].val], .cons ⟨t, ek⟩ (.cons ev .nil), ⟨_, hT2, rfl, _, rfl⟩⟩
    have I1 : Inv X pins σ (upd H s.heap.objs.size (.tup [.str z, .ref (f z)])) { s with heap := h'' } :=
      I.turnedNew (t' := s.toks) (ch := [it]) (fun b ob hb e => (sb.2 b (by simpa using hb)).trans (hk b ob (by simpa using hb) e)) hf (Nat.le_refl _) new
    refine ⟨.ref s.heap.objs.size, _, I1, rfl, ⟨_, z, hz, rfl, I.hok.fresh (Nat.le_refl _), rfl⟩, ⟨_, _, he'⟩, fun b hb => ?_⟩
    have e : b = it := by simpa using hb
    rw [e, upd_ne (Nat.ne_of_lt hlt)]
    exact (hf it (by simp)).1
  done := by
    intro X hP hw hK hc i pins s σ H E I hf st hg
    subst hP hw hK
    have hi : es.size ≤ i := by rw [N.size]; exact hg
    obtain ⟨f0, f1, f2, f3, f4, f5⟩ := hf it (by simp)
    obtain ⟨ok, ov, he⟩ := st
    exact wpAny_pyNext_items_end_raw (I.ok.hd hc) he (kd_raw D I.kIn) hi fun h' eb => ⟨rfl, I.turned (t' := s.toks) (fun b ob hb e => eb b ob hb e) f0 f1 f3 f4 f5⟩
  self := fun A i s Q E st h => let ⟨_, _, e⟩ := st; PySem.W.kcp_self e h
end
section
variable {X : Cx} {d : Addr} {es : Array DictEntry} {n : Nat} {f : Str → Addr} {zs : List Str} {td : TE} {e : Expr} {apos cpos : Pos}
def iItemsK (d : Addr) (f : Str → Addr) (zs : List Str) (td : TE) : TI := fun σ H R => td σ H fun x H1 => x = .ref d ∧ R (ItKi f zs) H1
theorem pi_itemsK {elts : List Expr} {kk : Nat} {tpos : Pos} (D : KDict X.K X.w d es n) (N : Ents es f zs) (he : PE X e td) (hbase : attributeBase e "items" X.env (eval e X.env) = eval e X.env := by rfl) (hline : (apos.endLine == cpos.line) = true := by rfl) :
    PI X (.Tuple elts kk tpos) (.Call (.Attribute e "items" apos) [] [] cpos) (iItemsK d f zs td) := by
  refine ⟨fun pins s σ H R I h => ?_⟩
  refine wpAny_Call_method (T := "dict") (id := "dict.items") hbase rfl hline F.plainAttrs_dict F.slot_dict_items F.type_dict_items (thn (he.run pins s σ H _ I h) fun u s1 ⟨x, H1, I1, rx, ex, q⟩ => ?_)
  subst ex
  obtain rfl : u = Value.ref d := rx
  have hm := kd_raw D I1.kIn
  refine ⟨hm.typeIs, (PySem.W.mapOf_K (prog := X.prog) (w := X.w) I1.kIn D.at_ D.lit).noDict, ?_⟩
  have I2 : Inv X pins σ H1 { s1 with heap := s1.heap.push { cls := .type "dict_items", data := .fields #[.ref d] } } := I1.kept (t' := s1.toks) fun b ob q => Heap.get?_push_of_some _ q
  have fin : wpAny (model X.prog X.w) X.A (pyIter (.ref s1.heap.objs.size)) (PIE X pins σ (.Tuple elts kk tpos) R) X.xe { s1 with heap := s1.heap.push { cls := .type "dict_items", data := .fields #[.ref d] } } := by
    refine wpAny_pyIter_items_raw (d := d) ⟨_, Heap.get?_push_size _ rfl, rfl, rfl⟩ (hm.at fun o q => Heap.get?_push_of_some _ q) (pi_one (tk := s1.toks) I2 _ (turn_itemsK _ D N) ⟨.none, .none, ?_⟩ q)
    exact Heap.get?_push_size _ rfl
  show wpAny _ _ (callWith cpos (.builtin "dict.items") [.ref d] [] []) _ X.xe s1
  exact method_meetsIn F.slot_dict_items F.entry_dict_items rfl (PySem.evalArgs_none ⟨rfl, hm.typeIs, F.args_dict_items_1 _, _, meets_dict_items_raw d D.low, ⟨⟨es, n, hm⟩, fin⟩⟩)
end
/-- the turns over the items of a written dict, for the for loop -/
theorem for_itemsK {f : Str → Addr} {zs : List Str} {g : TG} {tb : TS} {D : Ends} {σ : L2.St} {H : Hp} (Pv : Nat → L2.St → Hp → Prop) (h0 : Pv 0 σ H)
    (hs : ∀ i z σ H T, zs[i]? = some z → Pv i σ H → H T = none → g (.ref T) σ (upd H T (.tup [.str z, .ref (f z)])) fun σ2 H2 => tb { D with nx := Pv (i + 1), ct := Pv (i + 1), bk := D.nx } σ2 H2) (hd : ∀ σ H, Pv zs.length σ H → D.nx σ H) :
    ∃ W : Nat → Nat → L2.St → Hp → Prop, (∃ m, W 0 m σ H) ∧ ∀ i m σ H, W i m σ H →
      ((ItKi f zs).stop i H ∧ D.nx σ H) ∨ ((ItKi f zs).go i H ∧ ∃ N : L2.St → Hp → Prop, (∀ σ' H', N σ' H' → ∃ m', m' < m ∧ W (i + 1) m' σ' H') ∧ ∀ x H', (ItKi f zs).yld i H x H' → g x σ H' fun σ2 H2 => tb { D with nx := N, ct := N, bk := D.nx } σ2 H2) := by
  refine ⟨fun i m σ H => m = zs.length - i ∧ i ≤ zs.length ∧ Pv i σ H, ⟨zs.length, by simp, Nat.zero_le _, h0⟩, ?_⟩
  rintro i m σ H ⟨rfl, hi, p⟩
  by_cases hlt : i < zs.length
  · refine .inr ⟨hlt, Pv (i + 1), fun σ' H' p' => ⟨zs.length - (i + 1), by omega, rfl, hlt, p'⟩, fun x H' y => ?_⟩
    obtain ⟨T, z, hz, ex, hT, eH⟩ := y
    subst ex eH
    exact hs i z σ H T hz p hT
  · have e : i = zs.length := by omega
    subst e
    exact .inl ⟨Nat.le_refl _, hd σ H p⟩
/-! ### a property's facts -/
def propB (K : Fg) (x m : Str) : Bool := eqO (PySem.W.findIn K (.ref (ga K x)) m) (some (some (.ref (ma K (ga K x) m)))) && (eqO (PySem.W.specialIn K (.ref (ma K (ga K x) m)) "__get__") (some (some (.builtin "property.__get__"))) &&
  (decide (PySem.W.takesIn K (.ref (ma K (ga K x) m)) = some true) && (match PySem.W.recIn K (ma K (ga K x) m) "property" with
  | some (.ref g :: _) => decide (g = rcAt K x m "property")
  | _ => false)))
theorem propB_ok {K : Fg} {x m : Str} (h : propB K x m = true) : PropOf K (ga K x) m (ma K (ga K x) m) (rcAt K x m "property") := by
  obtain ⟨h1, h⟩ := ba h
  obtain ⟨h2, h⟩ := ba h
  obtain ⟨h3, h4⟩ := ba h
  refine ⟨eqO_ok h1, eqO_ok h2, of_decide_eq_true h3, ?_⟩
  split at h4
  · rename_i g rest e
    exact ⟨rest, by rw [e, of_decide_eq_true h4]⟩
  · exact nomatch h4
section
variable {X : Cx}
/-- str(x), x a list or a tuple of data -/
theorem call_strR (hG : NoG X.A) (hu : X.A.units + 70 < cLine) : CallR X (.type "str") (rRepr X.K) := by
  intro pins s σ H xs us Q I r h
  obtain ⟨a, d, rfl, hd, hm, hdp, hc, q⟩ := h
  obtain ⟨u, rfl, ru⟩ := vals1 r
  obtain ⟨as, hr, hn⟩ := Dx.reads I hd ru
  cases (show u = Value.ref a from ru)
  exact str_of_reads hr (mild_show d hm) (fun _ => hn) hG (by omega) (fun _ _ e => e) (fun h' u tk hk => ⟨.str d.shown, H, I.kept (t' := tk) hk, ⟨_, rfl⟩, q⟩) (Nat.le_trans (shown_le d hm) (by rw [sizeLine_eq]; exact hc))
end
end Tw
namespace K04
open PySem PySem.Spec PyProof.Rows L2 He Tw
theorem iteTe {b : Bool} {A B : Prop} (e : b = true) (h : A) : if b = true then A else B := by
  rw [e]
  exact h
theorem up_asc : ∀ {ps : List (Int × Str)}, Up ps ps.length → Asc ps
  | [], _ => List.Pairwise.nil
  | [a], _ => List.pairwise_singleton _ _
  | a :: b :: ps, h => by
    have ih : Asc (b :: ps) := up_asc fun m x y hm hx hy => h (m + 1) x y (by rw [List.length_cons]; omega) hx hy
    have ab : a.1 ≤ b.1 := h 0 a b (Nat.zero_lt_succ _) rfl rfl
    refine List.pairwise_cons.mpr ⟨fun c hc => ?_, ih⟩
    rcases List.mem_cons.mp hc with rfl | hc
    · exact ab
    · exact Int.le_trans ab ((List.pairwise_cons.mp ih).1 c hc)
theorem asc_ints {ps : List (Int × Str)} (h : Asc ps) : Asc ((rk ps).map fun r => (r, ("" : Str))) := by
  unfold rk
  rw [List.map_map]
  exact List.pairwise_map.mpr (h.imp fun h => h)
theorem sub_rk {qs ps : List (Int × Str)} (h : qs.Sublist ps) : (rk qs = rk ps) ↔ qs.length = ps.length := by
  constructor
  · intro e
    have := congrArg List.length e
    unfold rk at this
    rw [List.length_map, List.length_map] at this
    exact this
  · intro e
    rw [h.eq_of_length e]
theorem sub_cnt {qs ps : List (Int × Str)} (h : qs.Sublist ps) (r : Int) : cnt r qs ≤ cnt r ps := by
  unfold cnt at_
  exact (h.filter _).length_le
theorem inB_sub {qs ps : List (Int × Str)} (h : qs.Sublist ps) : inB qs ps = true := inB_iff.mpr (sub_cnt h)
theorem inB_len {qs ps : List (Int × Str)} (h : qs.Sublist ps) : inB ps qs = decide (qs.length = ps.length) := by
  rw [Bool.eq_iff_iff, decide_eq_true_eq, inB_iff]
  constructor
  · intro k
    have p : (rk qs).Perm (rk ps) := List.perm_iff_count.mpr fun r => by
      rw [cnt_count, cnt_count]
      exact Nat.le_antisymm (sub_cnt h r) (k r)
    have := p.length_eq
    unfold rk at this
    rw [List.length_map, List.length_map] at this
    exact this
  · intro e r
    rw [h.eq_of_length e]
    exact Nat.le_refl _
theorem inB_eq {ps qs : List (Int × Str)} (h : rk ps = rk qs) : inB ps qs = true := inB_iff.mpr fun r => by
  rw [← cnt_count, ← cnt_count, h]
  exact Nat.le_refl _
theorem mildInts : ∀ {is : List Int}, (∀ i ∈ is, i.natAbs ≤ 10 ^ 29 + 10 ^ 12) → mildAll (is.map PyData.int) = true ∧ capAll (is.map PyData.int) ≤ 2000 * is.length
  | [], _ => ⟨rfl, Nat.le_refl _⟩
  | i :: is, h => by
    obtain ⟨h1, h2⟩ := mildInts (is := is) fun i hi => h i (List.mem_cons_of_mem _ hi)
    have hi := h i List.mem_cons_self
    have hl : i.natAbs.log2 < 1920 := by
      by_cases e : i.natAbs = 0
      · rw [e]; decide
      · exact (Nat.log2_lt e).mpr (Nat.lt_of_le_of_lt hi (by decide +kernel))
    refine ⟨?_, ?_⟩
    · show (decide (i.natAbs.log2 < 1920) && mildAll (is.map PyData.int)) = true
      rw [h1, decide_eq_true hl]
      rfl
    · simp only [List.map_cons, capAll, cap, List.length_cons]
      omega
theorem depthInts : ∀ (is : List Int), PyData.depthAll (is.map PyData.int) = 0
  | [] => rfl
  | i :: is => by
    simp only [List.map_cons, PyData.depthAll, PyData.depth, depthInts is]
    rfl
theorem tupK {X : Cx} (K : Fg) (h : X.K = K := by rfl) : CallR X (.type "tuple") (fun xs H Q => ∃ p ys, xs = [.ref p] ∧ ((SqL K H p ys ∧ ∀ l, H l = none → Q (.ref l) (upd H l (.tup ys))) ∨ (SqT K H p ys ∧ Q (.ref p) H))) := by
  subst h
  exact call_tuple_of
section
variable {K : Fg} {H H' : Hp} {p l a f : Addr} {c c' : Nat} {ys ts : List V} {ps : List (Int × Str)}
theorem row_but (P : PenL H p l c) (e : But p H H') (h : RowAt K H a ys) : RowAt K H' a ys := by
  obtain ⟨dx, t, h1, h2⟩ := h
  exact ⟨dx, t, e _ _ h1 (pen_ne P h1 (fun _ z => nomatch z)), e _ _ h2 (pen_ne P h2 (fun _ z => nomatch z))⟩
theorem its_but (P : PenL H p l c) (e : But p H H') (its : Its K H ys ps) : Its K H' ys ps := by
  induction its with
  | nil => exact .nil
  | cons h r ih =>
    obtain ⟨b, rfl, dx', hb⟩ := h
    exact .cons ⟨b, rfl, dx', e _ _ hb (pen_ne P hb (fun _ z => nomatch z))⟩ ih
/-- == of a row with what is no row -/
def spEqO (K : Fg) : Sp := fun vs H Q _ => ∃ (a : Addr) (x : V) (t : Value), vs = [.ref a, x] ∧ TyA K H x t ∧ PySem.W.kitOne K t (.ref (ga K "Row")) = some false ∧ Q (.bl false) H
variable {P : Program} {w : World} {mg : Str → Option Value} {base : Heap}
theorem ok_eqo {f : Addr} {fd fdK : FuncData} (F : FnP K "__eq__" "Row.__eq__" s_eqr f fd) (FK : FnP K "ranks" "Row.ranks" s_rks (ma K (ga K "Row") "ranks") fdK) (T : Txt K mg) : FnOk P w K mg base CX0 2 f fd ["self", "other"] (spEqO K) := by
  have zisi : mg "isinstance" = none := T.bl (by decide +kernel)
  have gR : mg "Row" = some (.ref (ga K "Row")) := T.cl (by decide +kernel)
  have G_rks : FnOk P w K mg base CX0 1 _ fdK ["self"] (spRanks K) := ok_rks FK T
  have b_rks : Binds K fdK ["self"] [] := FK.bindsN fun _ _ _ _ _ _ us hl => match us, hl with | [_], _ => rfl
  have mR := T.mtR2 (m := "ranks") (by decide +kernel)
  refine F.ok sc_eqr (fun vs H Q E h => ?_) (fun cdv A outer s H vs Q E hr h => ?_)
  · obtain ⟨a, x, t, rfl, _⟩ := h
    rfl
  · obtain ⟨a, x, t, rfl, ty, kt, k⟩ := h
    refine ⟨_, PSs.nox (pss_one (ps_ret (pe_and (pe_callB call_isA (by rfl) zisi (by decide +kernel) (pa_cons (pv 1) (pa_cons (pe_glob (v := .ref (ga K "Row")) rfl gR rfl) pa_nil))) (pe_one (pe_cmpR (op_eqD hr.units) (pe_meth0 (E := E0) (pv 0) T.clsR mR G_rks (hr.mono (by decide)) b_rks .nil pass0) (pe_meth0 (E := E0) (pv 1) T.clsR mR G_rks (hr.mono (by decide)) b_rks .nil pass0) (nomark _)))))), ?_⟩
    exact ⟨_, rfl, x, .ref (ga K "Row"), _, _, _, rfl, .own _, ty, kt, _, rfl, k⟩
/-- what is no row, as a row is compared with it -/
inductive OthV (K : Fg) (H : Hp) : V → Prop where
  | bv {x : V} {t : String} (h : Bv H x t) : OthV K H x
  | item {a : Addr} {i : Int} {z : Str} (h : It K H a i z) : OthV K H (.ref a)
theorem OthV.same {x : V} (s : Same H H') (h : OthV K H x) : OthV K H' x := by
  cases h with
  | bv h => exact .bv (h.same s)
  | item h => exact .item (h.same s)
theorem OthV.ty (T : Txt K mg) {x : V} (h : OthV K H x) : ∃ t, TyA K H x t ∧ PySem.W.kitOne K t (.ref (ga K "Row")) = some false ∧ PySem.W.notFirst K (ga K "Row") t = true := by
  cases h with
  | @bv x t h =>
    have k : PySem.W.kitOne K (.type t) (.ref (ga K "Row")) = some false ∧ PySem.W.notFirst K (ga K "Row") (.type t) = true := by
      cases h with
      | non => exact T.kitT7 (by decide +kernel)
      | bl b => exact T.kitT7 (by decide +kernel)
      | int i => exact T.kitT7 (by decide +kernel)
      | str z => exact T.kitT7 (by decide +kernel)
      | lst e => exact T.kitT7 (by decide +kernel)
      | tup e => exact T.kitT7 (by decide +kernel)
      | dK e => exact T.kitT7 (by decide +kernel)
    exact ⟨_, .inl h.ty, k.1, k.2⟩
  | item h => exact ⟨_, .inl (It.ty T h), T.kitC (p := ("Item", "Row")) (by decide +kernel), T.nfI⟩
theorem eq_odd {x : V} {Q : VK} (T : Txt K mg) (ra : RowAt K H a ys) (o : OthV K H x) (k : Q (.bl false) H) : rEqOwn K (ga K "Row") (spEqO K) E0 (.ref a) x H Q := by
  obtain ⟨dx, t, h1, h2⟩ := ra
  obtain ⟨tx, ty, kt, nf⟩ := o.ty T
  exact ⟨a, dx, _, tx, rfl, h1, ty, nf, a, x, tx, rfl, ty, kt, k⟩
/-- == of two rows -/
theorem eq_rows {b : Addr} {zs : List V} {us : List (Int × Str)} {Q : VK} (T : Txt K mg) (ra : RowAt K H a ys) (ia : Its K H ys ps) (na : ps.length ≤ 900) (rb : RowAt K H b zs) (ib : Its K H zs us) (nb : us.length ≤ 900) (k : ∀ H', Same H H' → Q (.bl (decide (rk ps = rk us))) H') : rEqOwn K (ga K "Row") (spEqB K) E0 (.ref a) (.ref b) H Q := by
  obtain ⟨dx, t, h1, h2⟩ := id ra
  obtain ⟨db, tb, h3, h4⟩ := id rb
  exact ⟨a, dx, _, _, rfl, h1, .inl (rowTy T h3), T.nfR, a, b, ys, zs, ps, us, rfl, ra, ia, by rw [its_len ia]; exact na, rb, ib, by rw [its_len ib]; exact nb, k⟩
end
/-- str(x), x a list or a tuple of data -/
def rStrD (K : Fg) : List V → Hp → VK → Prop := fun xs H Q => ∃ (a : Addr) (d : PyData), xs = [.ref a] ∧ Dp K H (.ref a) d ∧ mild d = true ∧ d.depth ≤ 64 ∧ cap d ≤ 16777216 ∧ Q (.str d.shown) H
theorem call_strD {X : Cx} (hG : NoG X.A) (hu : X.A.units + 70 < cLine) : CallR X (.type "str") (rStrD X.K) := by
  intro pins s σ H xs us Q I r h
  obtain ⟨a, d, rfl, hd, hm, hdp, hc, q⟩ := h
  obtain ⟨u, rfl, ru⟩ := vals1 r
  obtain ⟨as, hr⟩ := Dp.reads I _ _ u hd ru
  cases (show u = Value.ref a from ru)
  have nd := dp_reads I hd
  exact str_of_reads hr (mild_show d hm) (fun z => by rw [nd] at z; cases z) hG (by omega) (fun _ _ e => e) (fun h' u tk hk => ⟨.str d.shown, H, I.kept (t' := tk) hk, ⟨_, rfl⟩, q⟩) (Nat.le_trans (shown_le d hm) (by rw [sizeLine_eq]; exact hc))
end K04
namespace K04
open PySem PySem.Spec PyProof.Rows L2 He Tw
abbrev s_cmp : Stmt := topS 41
abbrev N_cmp : List Str := ["_law_pen_here", "_law_row", "_law_pairs_here", "_law_bare", "_law_pair", "_law_kept", "_law_some", "_law_others", "_law_thing"]
theorem sc_cmp : FnScope N_cmp ["_law_pen_here", "_law_row", "_law_pairs_here"] (defScope s_cmp) := ⟨rfl, rfl, rfl, by decide +kernel, rfl, by decide +kernel, by decide +kernel⟩
def spCmp (K : Fg) : Sp := fun vs H Q _ => ∃ (p l a f : Addr) (c : Nat) (ys ts : List V) (ps : List (Int × Str)), vs = [.ref p, .ref a, .ref f] ∧ Hv K H p l c a f ys ts ps ∧ c ≤ 500000 ∧ ps.length ≤ 30 ∧ Up ps ps.length ∧ (∀ q ∈ ps, Gd q) ∧ ∀ H', Hv K H' p l (c + 60) a f ys ts ps → Q (.bl true) H'
section
variable {P : Program} {w : World} {K : Fg} {mg : Str → Option Value} {base : Heap} {fd : Nat → FuncData}
theorem ok_cmp (D : DefsK K fd) (T : Txt K mg) : FnG P w K mg base CX0 12 (ga K "_law_compared") (fd 45) ["_law_pen_here", "_law_row", "_law_pairs_here"] (spCmp K) := by
  have F : FnP K "_law_compared" "_law_compared" s_cmp (ga K "_law_compared") (fd 45) := D 45 _ rfl
  have FD : FnP K "_law_draw" "_law_draw" s_draw (ga K "_law_draw") (fd 34) := D 34 _ rfl
  have FV : FnP K "_law_values" "_law_values" s_values (ga K "_law_values") (fd 37) := D 37 _ rfl
  have FE : FnP K "__eq__" "Row.__eq__" s_eqr (ma K (ga K "Row") "__eq__") (fd 47) := D 47 _ rfl
  have FK : FnP K "ranks" "Row.ranks" s_rks (ma K (ga K "Row") "ranks") (fd 48) := D 48 _ rfl
  have FW : FnP K "within" "Row.within" s_wit (ma K (ga K "Row") "within") (fd 51) := D 51 _ rfl
  have gD : mg "_law_draw" = some (.ref (ga K "_law_draw")) := T.fn (by decide +kernel)
  have gV : mg "_law_values" = some (.ref (ga K "_law_values")) := T.fn (by decide +kernel)
  have gI : mg "Item" = some (.ref (ga K "Item")) := T.cl (by decide +kernel)
  have gR : mg "Row" = some (.ref (ga K "Row")) := T.cl (by decide +kernel)
  have zrepr : mg "repr" = none := T.bl (by decide +kernel)
  have zlen : mg "len" = none := T.bl (by decide +kernel)
  have ztup : mg "tuple" = none := T.bl (by decide +kernel)
  have zstr : mg "str" = none := T.bl (by decide +kernel)
  obtain ⟨d2, I⟩ := itm (P := P) (w := w) (base := base) (mg := mg) D T
  have Gr := G_row (P := P) (w := w) (mg := mg) (base := base) D T
  have GD : FnOk P w K mg base CX0 1 _ (fd 34) ["_law_pen_here", "_law_many"] spDrawL := ok_draw FD T
  have bD : Binds K (fd 34) ["_law_pen_here", "_law_many"] [] := FD.bindsN fun _ _ _ _ _ _ us hl => match us, hl with | [_, _], _ => rfl
  have GV : FnOk P w K mg base CX0 5 _ (fd 37) ["_law_pen_here", "_law_pairs_here"] (spValues K) := ok_values FV FD gD I T
  have bV : Binds K (fd 37) ["_law_pen_here", "_law_pairs_here"] [] := FV.bindsN fun _ _ _ _ _ _ us hl => match us, hl with | [_, _], _ => rfl
  have GE : FnOk P w K mg base CX0 2 _ (fd 47) ["self", "other"] (spEqB K) := ok_eqb FE FK T
  have GO : FnOk P w K mg base CX0 2 _ (fd 47) ["self", "other"] (spEqO K) := ok_eqo FE FK T
  have bE : Binds K (fd 47) ["self", "other"] [] := FE.bindsN fun _ _ _ _ _ _ us hl => match us, hl with | [_, _], _ => rfl
  have GK : FnOk P w K mg base CX0 1 _ (fd 48) ["self"] (spRanks K) := ok_rks FK T
  have bK : Binds K (fd 48) ["self"] [] := FK.bindsN fun _ _ _ _ _ _ us hl => match us, hl with | [_], _ => rfl
  have GW : FnOk P w K mg base CX0 9 _ (fd 51) ["self", "other"] (spWithin K) := ok_within FW (D 50 _ rfl) (D 28 _ rfl) (T.fn (x := "by_rank") (by decide +kernel)) (D 49 _ rfl) FK T
  have bW : Binds K (fd 51) ["self", "other"] [] := FW.bindsN fun _ _ _ _ _ _ us hl => match us, hl with | [_, _], _ => rfl
  have kW : KBn K (fd 51) ["self", "other"] 1 ["other"] (fun us ws => us ++ ws) (fun vs zs => vs ++ zs) := kbNone FW 1 ["other"] fun _ _ _ _ _ _ us ws h1 h2 => match us, h1, ws, h2 with | [_], _, [_], _ => rfl
  have mE := T.mtR2 (m := "__eq__") (by decide +kernel)
  have mW := T.mtR2 (m := "within") (by decide +kernel)
  have mK := T.mtR2 (m := "ranks") (by decide +kernel)
  refine F.okG sc_cmp (fun vs H Q E h => ?_) (fun cdv A outer s H vs Q E hr hg h => ?_)
  · obtain ⟨p, l, a, f, c, ys, ts, ps, rfl, _⟩ := h
    rfl
  · obtain ⟨p, l, a, f, c, ys, ts, ps, rfl, V0, hc, few, up, gd, k⟩ := h
    have hu := room70 hr
    refine ⟨_, PSs.nox (pss_cons (ps_set (i := 3) sc_cmp.nd rfl (Or.inl rfl) (pe_make (E := E0) T.mkR Gr (hr.mono (by decide)) rfl gR (bRow D) .nil passL (pa_cons (pe_lc (own := [("_law_pair", 4)]) (g := gName 4) (tt := tYes) (by rfl) sc_cmp.nd (pi_list (pv 2)) (blkOk_by (own := [("_law_pair", 4)]) (N := N_cmp) (sc := defScope s_cmp) (by decide +kernel)) (fun _ _ _ _ _ => (pg_name (i := 4) sc_cmp.nd rfl (Or.inl rfl))) (fun _ _ _ _ _ => pts_nil) (fun _ _ _ _ _ => (pe_ix (ixt K) (pv 4) pe_int (fun _ _ => rfl)))) pa_nil)))
    (pss_cons (ps_setLc (i := 5) (own := [("_law_pair", 4)]) (g := gName 4) (by rfl) sc_cmp.nd rfl rfl (sw_true rfl rfl rfl (by decide +kernel)) (pi_list (pv 2)) (blkOk_by (own := [("_law_pair", 4)]) (N := N_cmp) (sc := defScope s_cmp) (by decide +kernel)) (fun _ _ _ _ _ => (pg_name (i := 4) sc_cmp.nd rfl (Or.inl rfl))) (fun _ _ _ _ _ => pts_one (pt_cmpR op_gt (pe_call (E := E0) GD (hr.mono (by decide)) rfl gD FD.kp bD .nil pass0 (pa_cons (pv 0) (pa_cons pe_int pa_nil))) pe_int (nomark _))) (fun _ _ _ _ _ => (pv 4)))
    (pss_cons (ps_set (i := 6) sc_cmp.nd rfl (Or.inl rfl) (pe_make (E := E0) T.mkR Gr (hr.mono (by decide)) rfl gR (bRow D) .nil passL (pa_cons (pe_call (E := E0) GV (hr.mono (by decide)) rfl gV FV.kp bV .nil pass0 (pa_cons (pv 0) (pa_cons (pv 5) pa_nil))) pa_nil)))
    (pss_cons (ps_if (PW.pt (pw_or (pt_not (pt_cmpR (op_eqOwn (E := E0) mE.at_ mE.fn GE (hr.mono (by decide)) bE pass0) (pv 1) (pv 3) (nomark _))) (pw_or (pt_cmpR op_ne (pe_cmpR (op_eqOwn (E := E0) mE.at_ mE.fn GE (hr.mono (by decide)) bE pass0) (pv 6) (pv 1) (nomark _)) (pe_cmpR op_eq (pe_callB call_len (by rfl) zlen (by decide +kernel) (pa_cons (pv 5) pa_nil)) (pe_callB call_len (by rfl) zlen (by decide +kernel) (pa_cons (pv 2) pa_nil)) (nomark _)) (nomark _)) (pw_or1 (pt_not (pt_val (pe_methN (E := E0) (pv 6) T.clsR mW GW (hr.mono (by decide)) kW pass0 (pk_cons (pv 1) pk_nil)))))))) (pss_one (ps_ret pe_bl)) pss_nil)
    (pss_cons (ps_if (PW.pt (pw_or (pt_cmpR op_ne (pe_callB (call_reprV hg hu) (by rfl) zrepr Tw.boot_repr (pa_cons (pe_meth (E := E0) (pv 1) T.clsR mW GW (hr.mono (by decide)) bW .nil pass0 (pa_cons (pv 6) pa_nil)) pa_nil)) (pe_callB (call_reprV hg hu) (by rfl) zrepr Tw.boot_repr (pa_cons (pe_cmpR op_eq (pe_callB call_len (by rfl) zlen (by decide +kernel) (pa_cons (pv 5) pa_nil)) (pe_callB call_len (by rfl) zlen (by decide +kernel) (pa_cons (pv 2) pa_nil)) (nomark _)) pa_nil)) (nomark _)) (pw_or1 (pt_cmpR op_notBl (pe_meth (E := E0) (pv 1) T.clsR mW GW (hr.mono (by decide)) bW .nil pass0 (pa_cons (pv 3) pa_nil)) pe_bl (nomark _))))) (pss_one (ps_ret pe_bl)) pss_nil)
    (pss_cons (ps_set (i := 7) sc_cmp.nd rfl (Or.inl rfl) (pe_lstN (pa_cons pe_non (pa_cons (pv 2) (pa_cons (pe_lc (own := [("_law_pair", 4)]) (g := gName 4) (tt := tYes) (by rfl) sc_cmp.nd (pi_list (pv 2)) (blkOk_by (own := [("_law_pair", 4)]) (N := N_cmp) (sc := defScope s_cmp) (by decide +kernel)) (fun _ _ _ _ _ => (pg_name (i := 4) sc_cmp.nd rfl (Or.inl rfl))) (fun _ _ _ _ _ => pts_nil) (fun _ _ _ _ _ => (pe_ix (ixt K) (pv 4) pe_int (fun _ _ => rfl)))) (pa_cons (pe_callTy (tupK K) (by rfl) ztup (by decide +kernel) (pa_cons (pv 2) pa_nil)) (pa_cons pe_int (pa_cons (pe_callTy (call_strD hg hu) (by rfl) zstr (by decide +kernel) (pa_cons (pe_meth0 (E := E0) (pv 1) T.clsR mK GK (hr.mono (by decide)) bK .nil pass0) pa_nil)) (pa_cons (pe_make (E := E0) T.mkI I.ok (hr.mono (by decide)) rfl gI I.b2 I.r2 passL (pa_cons pe_int pa_nil)) pa_nil)))))))))
    (pss_one (ps_ret (pe_cmpR (op_eqD hr.units) (pe_lc (own := [("_law_thing", 8)]) (g := gName 8) (by rfl) sc_cmp.nd (pi_list (pv 7)) (blkOk_by (own := [("_law_thing", 8)]) (N := N_cmp) (sc := defScope s_cmp) (by decide +kernel)) (fun _ _ _ _ _ => (pg_name (i := 8) sc_cmp.nd rfl (Or.inl rfl))) (fun _ _ _ _ _ => pts_one (pt_cmpR (eqOwnK (E := E0) P w K mg base mE.at_ mE.fn GO (hr.mono (by decide)) bE pass0) (pv 1) (pv 8) (nomark _))) (fun _ _ _ _ _ => (pv 8))) (pe_lstN pa_nil) (nomark _)))))))))), ?_⟩
    have lt : ts.length = ps.length := Paired.length V0.prs
    have lr : (rk ps).length = ps.length := by unfold rk; rw [List.length_map]
    have asc := up_asc up
    have rok : ∀ r ∈ rk ps, rankOk (.int r) = true := fun r h => by
      obtain ⟨q, hq, rfl⟩ := List.mem_map.mp h
      exact gd_rank (gd q hq)
    have bare : ∀ {G : Hp} {D1 : Addr}, (V : Hv K G p l c a f ys ts ps) → True := fun _ => trivial
    refine ⟨_, rfl, f, rfl, ⟨ts, SqL.of V0.hf⟩, fun D1 hD1 => lc_list (K := K) (a := f) (xs := ts) (fun i H' => Same H H' ∧ H' D1 = some (.lst (((rk ps).take i).map V.int))) ⟨same_new hD1, upd_same⟩ (fun i H' _ q => SqL.of (q.1 _ _ V0.hf)) ?_ ?_⟩
    · rintro j x H' hx ⟨sD, gD⟩
      obtain ⟨t, q, rfl, eq, ht⟩ := prs_at V0.prs hx
      refine ⟨rfl, _, rfl, t, _, 0, .int q.1, rfl, rfl, SqT.of (sD _ _ ht), rfl, _, gD, ?_, same_upd sD hD1, ?_⟩
      · rw [List.length_map]
        exact Nat.lt_of_le_of_lt (List.length_take_le' _ _) (Nat.lt_of_le_of_lt (show (rk ps).length ≤ 30 by omega) (by decide))
      · rw [upd_same, List.take_add_one, show (rk ps)[j]? = some q.1 by unfold rk; rw [List.getElem?_map, eq]; rfl, Option.toList_some, List.map_append]
        rfl
    rintro G1 ⟨s1, g1⟩
    rw [List.take_of_length_le (by omega)] at g1
    refine fun x1 dx1 h1 h2 h3 => row_to h1 h2 h3 (vals_src (.inl (SqL.of g1)) (ints_vals rok) (by rw [List.length_map]; omega)) (asc_up (asc_ints asc)) (by rw [List.length_map]; omega) fun G2 ys1 s2 ra1 its1 => ⟨rfl, ?_⟩
    have V2 := (V0.same s1).same s2
    clear s1 g1 hD1 h1 h2 h3
    -- what is kept
    refine ⟨_, rfl, f, rfl, ⟨ts, SqL.of V2.hf⟩, fun D2 hD2 => lc_list (K := K) (a := f) (xs := ts) (fun i H' => PenL H' p l (c + i) ∧ But p G2 H' ∧ ∃ us qs, H' D2 = some (.lst us) ∧ Prs H' us qs ∧ qs.Sublist (ps.take i)) ⟨V2.P.same (same_new hD2), But.of (same_new hD2), [], [], upd_same, .nil, .slnil⟩ (fun i H' _ q => SqL.of (q.2.1 _ _ V2.hf V2.np)) ?_ ?_⟩
    · rintro j x H' hx ⟨P', B', us, qs, gD2, pr, sl⟩
      obtain ⟨t, q, rfl, eq, ht⟩ := prs_at V2.prs hx
      obtain ⟨nDp, nDl⟩ := V2.P.new hD2
      have nt := pen_ne V2.P ht (fun _ z => nomatch z)
      have hj := (List.getElem?_eq_some_iff.mp eq).1
      refine ⟨rfl, _, rfl, p, l, 4, c + j, rfl, by decide, by decide, P', by omega, fun r2 H2 r0 r1 P2 B2 => ⟨_, _, rfl, rfl, ?_⟩⟩
      have gD3 := B2 _ _ gD2 nDp
      have pr2 : Prs H2 us qs := pr.keep fun t xs z => B2 _ _ z (pen_ne P' z (fun _ z => nomatch z))
      have tp : ps.take (j + 1) = ps.take j ++ [q] := by rw [List.take_add_one, eq]; rfl
      have lu : us.length ≤ 30 := by
        have l1 : us.length = qs.length := Paired.length pr
        have l2 := sl.length_le
        rw [List.length_take] at l2
        omega
      by_cases h : (0 : Int) < r2
      · refine ⟨_, rfl, iteTe (decide_eq_true h) ?_⟩
        refine ⟨_, rfl, us, gD3, Nat.lt_of_le_of_lt lu (by decide), P2.upd nDp nDl, fun b o hb hbp => ?_, us ++ [.ref t], qs ++ [q], upd_same, ?_, ?_⟩
        · rw [upd_ne (ne_of_none hb hD2)]
          exact B2 _ _ (B' _ _ hb hbp) hbp
        · have kp : ∀ t' xs, H2 t' = some (.tup xs) → upd H2 D2 (.lst (us ++ [.ref t])) t' = some (.tup xs) := fun t' xs z => by
            rw [upd_ne (fun e => by
              rw [e, gD3] at z
              cases z)]
            exact z
          exact Prs.snoc (pr2.keep kp) (kp _ _ (B2 _ _ (B' _ _ ht nt) nt))
        · rw [tp]
          exact sl.append (List.Sublist.refl _)
      · refine ⟨_, rfl, iteFe (decide_eq_false h) ?_⟩
        refine ⟨P2, B'.trans B2, us, qs, gD3, pr2, ?_⟩
        rw [tp]
        exact sl.trans (List.sublist_append_left _ _)
    rintro G3 ⟨P3, B3, us, qs, gD, pr, sl⟩
    rw [List.take_of_length_le (by omega)] at sl
    rw [lt] at P3
    obtain ⟨nDp, nDl⟩ := V2.P.new hD2
    have lu : us.length = qs.length := Paired.length pr
    have lq := sl.length_le
    have ascq : Asc qs := List.Pairwise.sublist sl asc
    have gdq : ∀ q ∈ qs, Gd q := fun q hq => gd q (sl.subset hq)
    dsimp only [gName]
    unfold tSeq
    refine ⟨_, rfl, _, rfl, p, l, D2, us, qs, c + ps.length, rfl, P3, by omega, gD, nDp, pr, by omega, gdq, fun g G4 xs P4 B4 f4 ngp g4 vv => ?_⟩
    refine fun x2 dx2 h4 h5 h6 => row_to h4 h5 h6 (vals_src (.inl (SqL.of g4)) vv (by omega)) (asc_up ascq) (by omega) fun G5 ys2 s5 ra2 its2 => ⟨rfl, ?_⟩
    have V5 := (V2.but (B3.trans B4) P4).same s5
    have ra1' := (row_but V2.P (B3.trans B4) ra1).same s5
    have its1' := (its_but V2.P (B3.trans B4) its1).same s5
    have gD5 := s5 _ _ (B4 _ _ gD nDp)
    have nr : ((rk ps).map fun r => (r, ("" : Str))).length ≤ 900 := by rw [List.length_map]; omega
    have ln := its_len V5.its
    have ln1 := its_len its1
    rw [List.length_map] at ln1
    have ln2 := its_len its2
    clear ra1 its1 B3 B4 P4 P3 h4 h5 h6 vv g4 f4
    have el : decide (rk qs = rk ps) = decide (V.int ((us.length : Nat) : Int) = V.int ((ts.length : Nat) : Int)) := by
      rw [Bool.eq_iff_iff, decide_eq_true_eq, decide_eq_true_eq, sub_rk sl, lu, lt]
      constructor
      · intro e
        rw [e]
      · intro e
        have := V.int.inj e
        omega
    -- the first if
    refine ⟨_, rfl, _, rfl, eq_rows T V5.ra V5.its (by omega) ra1' its1' nr fun G6 s6 => ⟨_, rfl, iteFe (by rw [rk_ints, decide_eq_true rfl]; rfl) ?_⟩⟩
    have V6 := V5.same s6
    refine ⟨_, rfl, _, rfl, eq_rows T (ra2.same s6) (its2.same s6) (by omega) V6.ra V6.its (by omega) fun G7 s7 => ?_⟩
    have V7 := V6.same s7
    have S7 := s6.trans s7
    refine ⟨_, rfl, .ref D2, us.length, rfl, .inl ⟨us, SqL.of (S7 _ _ gD5), rfl⟩, _, rfl, .ref f, ts.length, rfl, .inl ⟨ts, SqL.of V7.hf, rfl⟩, rfl, rfl, _, rfl, ?_⟩
    refine iteFe (by rw [el, decide_eq_true rfl]; rfl) ?_
    obtain ⟨dx, t0, ha, hta⟩ := id V7.ra
    have ra2' := ra2.same S7
    have its2' := its2.same S7
    obtain ⟨dx2, t2, ha2, hta2⟩ := id ra2'
    refine ⟨_, rfl, x2, dx2, _, rfl, ha2, rfl, _, rfl, rfl, x2, a, ys2, ys, qs, ps, rfl, ra2', its2', by omega, ascq, V7.ra, V7.its, by omega, asc, fun G8 s8 => ⟨_, rfl, iteFe (by rw [inB_sub sl]; rfl) ?_⟩⟩
    have V8 := V7.same s8
    have S8 := S7.trans s8
    -- the second if
    refine ⟨_, rfl, a, dx, _, rfl, s8 _ _ ha, rfl, _, rfl, a, x2, ys, ys2, ps, qs, rfl, V8.ra, V8.its, by omega, asc, ra2'.same s8, its2'.same s8, by omega, ascq, fun G9 s9 => ?_⟩
    have V9 := V8.same s9
    have S9 := S8.trans s9
    refine ⟨_, .bool (inB ps qs), rfl, .bl _, rfl, by simp [PyData.depth], by simp only [cap]; decide, ?_⟩
    refine ⟨_, rfl, .ref D2, us.length, rfl, .inl ⟨us, SqL.of (S9 _ _ gD5), rfl⟩, _, rfl, .ref f, ts.length, rfl, .inl ⟨ts, SqL.of V9.hf, rfl⟩, rfl, ?_⟩
    refine ⟨_, .bool (decide (V.int ((us.length : Nat) : Int) = V.int ((ts.length : Nat) : Int))), rfl, .bl _, rfl, by simp [PyData.depth], by simp only [cap]; decide, rfl, _, rfl, ?_⟩
    have e2 : inB ps qs = decide (V.int ((us.length : Nat) : Int) = V.int ((ts.length : Nat) : Int)) := by
      rw [inB_len sl, ← el, Bool.eq_iff_iff, decide_eq_true_eq, decide_eq_true_eq, sub_rk sl]
    refine iteFe (by rw [e2, decide_eq_true rfl]; rfl) ?_
    refine ⟨_, rfl, a, dx, _, rfl, s9 _ _ (s8 _ _ ha), rfl, _, rfl, a, x1, ys, ys1, ps, _, rfl, V9.ra, V9.its, by omega, asc, ra1'.same S9, its1'.same S9, by omega, asc_ints asc, fun G10 s10 => ?_⟩
    have V10 := V9.same s10
    refine ⟨_, _, rfl, rfl, _, rfl, iteFe (by rw [inB_eq (rk_ints _).symm]; rfl) ?_⟩
    have ha10 : G10 a = some (.ins (ga K "Row") dx [("state", .ref t0)]) := s10 _ _ (s9 _ _ (s8 _ _ ha))
    clear ha2 hta2 ha hta ra2 ra2' its2 its2' ra1' its1' e2 el gD5 S9 S8 S7 s6 s7 s8 s9 s10 V9 V8 V7 V6 V5
    -- the others
    refine ⟨_, rfl, _, rfl, f, rfl, ⟨ts, SqL.of V10.hf⟩, fun D3 hD3 => lc_list (K := K) (a := f) (xs := ts) (fun i H' => Same G10 H' ∧ H' D3 = some (.lst (((rk ps).take i).map V.int))) ⟨same_new hD3, upd_same⟩ (fun i H' _ q => SqL.of (q.1 _ _ V10.hf)) ?_ ?_⟩
    · rintro j x H' hx ⟨sD, gD⟩
      obtain ⟨t, q, rfl, eq, ht⟩ := prs_at V10.prs hx
      refine ⟨rfl, _, rfl, t, _, 0, .int q.1, rfl, rfl, SqT.of (sD _ _ ht), rfl, _, gD, ?_, same_upd sD hD3, ?_⟩
      · rw [List.length_map]
        exact Nat.lt_of_le_of_lt (List.length_take_le' _ _) (Nat.lt_of_le_of_lt (show (rk ps).length ≤ 30 by omega) (by decide))
      · rw [upd_same, List.take_add_one, show (rk ps)[j]? = some q.1 by unfold rk; rw [List.getElem?_map, eq]; rfl, Option.toList_some, List.map_append]
        rfl
    rintro G11 ⟨s11, g11⟩
    have V11 := V10.same s11
    refine ⟨_, rfl, f, ts, rfl, .inl ⟨SqL.of V11.hf, fun t3 h12 => ?_⟩⟩
    have s12 : Same G11 (upd G11 t3 (.tup ts)) := same_new h12
    have g12 : (upd G11 t3 (.tup ts)) t3 = some (.tup ts) := upd_same
    generalize upd G11 t3 (.tup ts) = G12 at s12 g12 ⊢
    have V12 := V11.same s12
    refine ⟨_, rfl, a, dx, _, rfl, s12 _ _ (s11 _ _ ha10), rfl, a, ys, ps, rfl, V12.ra, V12.its, by omega, fun l4 G13 h13 s13 g13 => ?_⟩
    obtain ⟨m1, m2⟩ := mildInts (is := rk ps) fun i hi => gd_big gd hi
    refine ⟨l4, .list ((rk ps).map .int), rfl, .lst (SqL.of g13) (dp_ints _), by simpa [mild] using m1, by simp [PyData.depth, depthInts], by simp only [cap]; omega, ?_⟩
    refine fun x3 dx3 h1 h2 h3 => item_mk h1 h2 h3 (by decide) (by decide +kernel) (by decide +kernel) fun G14 I14 s14 => ⟨rfl, ?_⟩
    refine ⟨sz1000 (by show 7 ≤ 1000; decide), fun e8 G15 f15 m15 s15 g15 => ?_⟩
    have T14 := s15
    have T13 := s14.trans s15
    have T12 := s13.trans T13
    have T11 := s12.trans T12
    have V15 := V11.same T11
    have oth : ∀ x ∈ ([.non, .ref f, .ref D3, .ref t3, .int 0, .str (PyData.list ((rk ps).map .int)).shown, .ref x3] : List V), OthV K G15 x := fun x hx => by
      simp only [List.mem_cons, List.not_mem_nil, or_false] at hx
      rcases hx with rfl | rfl | rfl | rfl | rfl | rfl | rfl
      · exact .bv .non
      · exact .bv (.lst V15.hf)
      · exact .bv (.lst (T11 _ _ g11))
      · exact .bv (.tup (T12 _ _ g12))
      · exact .bv (.int _)
      · exact .bv (.str _)
      · exact .item (I14.same s15)
    refine ⟨_, rfl, e8, rfl, ⟨_, SqL.of g15⟩, fun D4 hD4 => lc_list (K := K) (a := e8) (fun i H' => Same G15 H' ∧ H' D4 = some (.lst [])) ⟨same_new hD4, upd_same⟩ (fun i H' _ q => SqL.of (q.1 _ _ g15)) ?_ ?_⟩
    · rintro j x H' hx ⟨sD, gD⟩
      have o := (oth x (List.mem_of_getElem? hx)).same sD
      exact ⟨rfl, _, rfl, _, rfl, eq_odd T (V15.same sD).ra o ⟨_, rfl, iteF ⟨sD, gD⟩⟩⟩
    rintro G26 ⟨s26, g26⟩
    refine ⟨sz1000 (by show 0 ≤ 1000; decide), fun e9 G27 f27 m27 s27 g27 => ?_⟩
    refine ⟨.list [], .list [], .lst (SqL.of (s27 _ _ g26)) .nil, .lst (SqL.of g27) .nil, shapedBools [], shapedBools [], ?_⟩
    rw [show PyData.eqv (.list []) (.list []) = true from eqvBools []]
    exact k G27 (((V15.same s26).same s27).mono (by omega))
end
end K04
namespace K04
open PySem PySem.Spec PyProof.Rows L2 He Tw
def pd (q : Int × Str) : PyData := .tuple [.int q.1, .str q.2]
theorem dp_prs {K : Fg} {H : Hp} : ∀ {ts : List V} {ps : List (Int × Str)}, Prs H ts ps → DpAll K H ts (ps.map pd)
  | _, _, .nil => .nil
  | _, _, .cons ⟨t, h1, h2⟩ r => by
    subst h1
    exact .cons (.tup (SqT.of h2) (.cons (.int _) (.cons (.str _) .nil))) (dp_prs r)
theorem letters_lt : ∀ c ∈ letters.cps.toList, c < 128 := by decide +kernel
theorem text_strOk {z : Str} (h : textOk z = true) : PyData.strOk z = true := by
  unfold textOk at h
  unfold PyData.strOk
  rw [← Array.all_toList, List.all_eq_true]
  exact fun c hc => decide_eq_true (Nat.lt_trans (letters_lt c (of_decide_eq_true (List.all_eq_true.mp (ba h).2 c hc))) (by decide))
theorem lay_prs : ∀ {ps : List (Int × Str)}, (∀ q ∈ ps, Gd q) → PyData.canLayAll0 (ps.map pd) = true ∧ PyData.depthAll (ps.map pd) ≤ 1
  | [], _ => ⟨rfl, Nat.zero_le _⟩
  | q :: ps, h => by
    obtain ⟨h1, h2⟩ := lay_prs (ps := ps) fun x hx => h x (List.mem_cons_of_mem _ hx)
    have h3 := text_strOk (h q List.mem_cons_self).2.1
    constructor
    · simp only [List.map_cons, pd, PyData.canLayAll0, PyData.canLay0, h1, h3, Bool.and_self]
    · simp only [List.map_cons, pd, PyData.depthAll, PyData.depth]
      omega
theorem shaped_prs {ps : List (Int × Str)} (h : ∀ q ∈ ps, Gd q) : SeqAt.shaped (.list (ps.map pd)) = true := by
  obtain ⟨h1, h2⟩ := lay_prs h
  simp only [SeqAt.shaped, PyData.canLay0, PyData.depth, h1, Bool.true_and]
  exact decide_eq_true (by omega)
theorem eqv_prs {ps : List (Int × Str)} (h : ∀ q ∈ ps, Gd q) : PyData.eqv (.list (ps.map pd)) (.list (ps.map pd)) = true := SeqAt.eqv_refl _ (by
  have := (lay_prs h).1
  simpa [PyData.canLay0] using this)
theorem pairD {z : Str} (hz : PyData.canLay0 (.str z) = true) (i : Int) : SeqAt.shaped (.tuple [.str z, .int i]) = true ∧ PyData.eqv (.tuple [.str z, .int i]) (.tuple [.str z, .int i]) = true := by
  constructor
  · simp [SeqAt.shaped, PyData.canLay0, PyData.canLayAll0, PyData.depth, PyData.depthAll] at hz ⊢
    try exact hz
  · simp [PyData.eqv, PyData.eqvAll]
theorem paired_take {α β : Type} {F : α → β → Prop} : ∀ {xs : List α} {ys : List β} (n : Nat), Paired F xs ys → Paired F (xs.take n) (ys.take n)
  | _, _, 0, _ => by rw [List.take_zero, List.take_zero]; exact .nil
  | _, _, _ + 1, .nil => .nil
  | _, _, n + 1, .cons h t => .cons h (paired_take n t)
theorem paired_drop {α β : Type} {F : α → β → Prop} : ∀ {xs : List α} {ys : List β} (n : Nat), Paired F xs ys → Paired F (xs.drop n) (ys.drop n)
  | _, _, 0, h => h
  | _, _, _ + 1, .nil => .nil
  | _, _, n + 1, .cons _ t => paired_drop n t
/-- told and what is asked are equal -/
theorem ne_prs {K : Fg} {H : Hp} {x y : Addr} {us ts : List V} {ps : List (Int × Str)} {Q : VK} (gd : ∀ q ∈ ps, Gd q) (hx : H x = some (.lst us)) (hu : Prs H us ps) (hy : H y = some (.lst ts)) (ht : Prs H ts ps) (k : Q (.bl false) H) : rNeD K (.ref x) (.ref y) H Q := by
  refine ⟨_, _, .lst (SqL.of hx) (dp_prs hu), .lst (SqL.of hy) (dp_prs ht), shaped_prs gd, shaped_prs gd, ?_⟩
  rw [eqv_prs gd]
  exact k
theorem ne_place {K : Fg} {H : Hp} {x y : Addr} {i : Int} {Q : VK} (hx : H x = some (.tup [.str "place", .int i])) (hy : H y = some (.tup [.str "place", .int i])) (k : Q (.bl false) H) : rNeD K (.ref x) (.ref y) H Q := by
  obtain ⟨d1, d2⟩ := pairD (z := "place") (by decide +kernel) i
  refine ⟨_, _, .tup (SqT.of hx) (.cons (.str _) (.cons (.int _) .nil)), .tup (SqT.of hy) (.cons (.str _) (.cons (.int _) .nil)), d1, d1, ?_⟩
  rw [d2]
  exact k
section
variable {K : Fg} {H : Hp} {p l a f : Addr} {c : Nat} {ys ts : List V} {ps : List (Int × Str)}
theorem lam_ix (V0 : Hv K H p l c a f ys ts ps) (few : ps.length ≤ 30) {i : Int} {t : XK → TE} {σ : L2.St} {R : VK}
    (rd : ∀ E H' Q', Hv K H' p l c a f ys ts ps → spGet K [.ref a, .int i] H' Q' E → t E σ H' Q')
    (k1 : 0 ≤ i → i < ps.length → ∀ (o : V) (q : Addr) (H' : Hp), ys[i.toNat]? = some o → Hv K H' p l c a f ys ts ps → H' q = some (.lst [o]) → R (.ref q) H')
    (k2 : ¬ (0 ≤ i ∧ i < ps.length) → ∀ (q : Addr) (H' : Hp), Hv K H' p l c a f ys ts ps → H' q = some (.tup [.str "place", .int i]) → R (.ref q) H') : LamX.tLam (Tb K) (TTh K) t σ H R := by
  have w1 : wordOf "BadPlace" = "place" := by decide +kernel
  refine ⟨V0.t, fun H7 e7 T7 E' Q' hE hQ => ?_⟩
  have V7 := V0.ext e7 T7
  refine rd _ _ _ V7 (.inl ⟨a, i, ys, ps, rfl, V7.ra, V7.its, by omega, fun h o ho => hQ o H7 fun q H8 f8 s8 g8 => k1 h.1 h.2 o q H8 ho (V7.same s8) g8, fun nb d H8 s8 g8 => hE _ _ _ ⟨("BadPlace", 6, "at"), i, d, by decide +kernel, rfl, rfl, g8, fun q H9 f9 s9 g9 => ?_⟩⟩)
  have g9' : H9 q = some (.tup [.str (wordOf "BadPlace"), .int i]) := g9
  rw [w1] at g9'
  exact k2 nb q H9 ((V7.same s8).same s9) g9'
theorem lam_two (V0 : Hv K H p l c a f ys ts ps) (few : ps.length ≤ 30) {i j : Int} {t : XK → TE} {σ : L2.St} {R : VK}
    (rd : ∀ E H' Q', Hv K H' p l c a f ys ts ps → (∀ (u : Addr) (H2 : Hp), H' u = none → Same H' H2 → H2 u = some (.tup [.int i, .int j]) → spGet K [.ref a, .ref u] H2 Q' E) → t E σ H' Q')
    (k1 : 0 ≤ i → i ≤ j → j ≤ ps.length → ∀ (u q : Addr) (H' : Hp), Hv K H' p l c a f ys ts ps → H' q = some (.lst [.ref u]) → H' u = some (.lst ((ys.take j.toNat).drop i.toNat)) → R (.ref q) H')
    (k2 : ¬ (0 ≤ i ∧ i ≤ ps.length) → ∀ (q : Addr) (H' : Hp), Hv K H' p l c a f ys ts ps → H' q = some (.tup [.str "place", .int i]) → R (.ref q) H')
    (k3 : (0 ≤ i ∧ i ≤ ps.length) → ¬ (i ≤ j ∧ j ≤ ps.length) → ∀ (q : Addr) (H' : Hp), Hv K H' p l c a f ys ts ps → H' q = some (.tup [.str "place", .int j]) → R (.ref q) H') : LamX.tLam (Tb K) (TTh K) t σ H R := by
  have w1 : wordOf "BadPlace" = "place" := by decide +kernel
  refine ⟨V0.t, fun H7 e7 T7 E' Q' hE hQ => ?_⟩
  have V7 := V0.ext e7 T7
  refine rd _ _ _ V7 fun u H8 f8 s8 g8 => ?_
  have V8 := V7.same s8
  have bad : ∀ (x : Int) (d : Addr) (H9 : Hp), Same H8 H9 → H9 d = some (.xd [("at", .int x)]) → (∀ (q : Addr) (H' : Hp), Hv K H' p l c a f ys ts ps → H' q = some (.tup [.str "place", .int x]) → R (.ref q) H') → E' (.ref (ga K "BadPlace")) (some d) H9 := fun x d H9 s9 g9 kk =>
    hE _ _ _ ⟨("BadPlace", 6, "at"), x, d, by decide +kernel, rfl, rfl, g9, fun q H10 f10 s10 g10 => by
      have g' : H10 q = some (.tup [.str (wordOf "BadPlace"), .int x]) := g10
      rw [w1] at g'
      exact kk q H10 ((V8.same s9).same s10) g'⟩
  refine .inr ⟨a, u, i, j, rfl, g8, a, i, j, ys, ps, rfl, V8.ra, V8.its, by omega, fun h u2 H9 f9 s9 g9 => hQ _ H9 fun q H10 f10 s10 g10 => ?_, fun nb d H9 s9 g9 => bad i d H9 s9 g9 (k2 nb), fun h nb d H9 s9 g9 => bad j d H9 s9 g9 (k3 h nb)⟩
  exact k1 h.1 h.2.2.1 h.2.2.2 u2 q H10 ((V8.same s9).same s10) g10 (s10 _ _ g9)
end
end K04
namespace K04
open PySem PySem.Spec PyProof.Rows L2 He Tw
abbrev N_plc : List Str := ["_law_pen_here", "_law_row", "_law_pairs_here", "_law_many", "_law_turn", "_law_at", "_law_stop", "_law_heard_here"]
theorem sc_plc : FnScope N_plc ["_law_pen_here", "_law_row", "_law_pairs_here"] (defScope s_plc) := ⟨rfl, rfl, rfl, by decide +kernel, rfl, by decide +kernel, by decide +kernel⟩
def spPlc (K : Fg) : Sp := fun vs H Q _ => ∃ (p l a f : Addr) (c : Nat) (ys ts : List V) (ps : List (Int × Str)), vs = [.ref p, .ref a, .ref f] ∧ Hv K H p l c a f ys ts ps ∧ c ≤ 500000 ∧ ps.length ≤ 30 ∧ (∀ q ∈ ps, Gd q) ∧ ∀ H', Hv K H' p l (c + 36) a f ys ts ps → Q (.bl true) H'
section
variable {P : Program} {w : World} {K : Fg} {mg : Str → Option Value} {base : Heap} {fd : Nat → FuncData}
theorem ok_plc (D : DefsK K fd) (T : Txt K mg) (TB : LamX.TabB base mg (Tw.codeAt K (ga K "_law_places_right")) (tabAt K (ga K "_law_places_right"))) :
    FnOk P w K mg base CX0 12 (ga K "_law_places_right") (fd 42) ["_law_pen_here", "_law_row", "_law_pairs_here"] (spPlc K) := by
  have zlen : mg "len" = none := T.bl (by decide +kernel)
  have zr : mg "range" = none := T.bl (by decide +kernel)
  have zisi : mg "isinstance" = none := T.bl (by decide +kernel)
  have zlist : mg "list" = none := T.bl (by decide +kernel)
  have gH := T.fn (x := "_law_heard") (by decide +kernel)
  have gX := T.fn (x := "_law_index") (by decide +kernel)
  have gT := T.fn (x := "_law_told") (by decide +kernel)
  have FH : FnP K "_law_heard" "_law_heard" s_heard (ga K "_law_heard") (fd 39) := D 39 _ rfl
  have FX : FnP K "_law_index" "_law_index" s_lidx (ga K "_law_index") (fd 41) := D 41 _ rfl
  have FT : FnP K "_law_told" "_law_told" s_told (ga K "_law_told") (fd 38) := D 38 _ rfl
  have FG : FnP K "__getitem__" "Row.__getitem__" s_get (ma K (ga K "Row") "__getitem__") (fd 52) := D 52 _ rfl
  have GX : FnOk P w K mg base CX0 3 _ (fd 41) ["_law_pen_here", "_law_many"] spLIdx := ok_lidx FX (D 34 _ rfl) (T.fn (x := "_law_draw") (by decide +kernel)) (D 35 _ rfl) (T.fn (x := "_law_pick") (by decide +kernel)) T
  have GT : FnOk P w K mg base CX0 1 _ (fd 38) ["_law_listed"] (spTold K) := ok_told FT T
  have GG : FnOk P w K mg base (L2.CX P w) 4 (ma K (ga K "Row") "__getitem__") (fd 52) ["self", "at"] (spGet K) := G_get D T
  have bX : Binds K (fd 41) ["_law_pen_here", "_law_many"] [] := FX.bindsN fun _ _ _ _ _ _ us hl => match us, hl with | [_, _], _ => rfl
  have bT : Binds K (fd 38) ["_law_listed"] [] := FT.bindsN fun _ _ _ _ _ _ us hl => match us, hl with | [_], _ => rfl
  have bG : Binds K (fd 52) ["self", "at"] [] := FG.bindsN fun _ _ _ _ _ _ us hl => match us, hl with | [_, _], _ => rfl
  have bh : Binds K (fd 39) ["_law_ask"] [] := FH.bindsN fun _ _ _ _ _ _ us hl => match us, hl with | [_], _ => rfl
  have fG := fnIn_of FG
  have mG := T.mtR2 (m := "__getitem__") (by decide +kernel)
  have F : FnP K "_law_places_right" "_law_places_right" s_plc (ga K "_law_places_right") (fd 42) := D 42 _ rfl
  obtain ⟨och, odh, dVh, kVh, doch, pmh, anh, cdh, cth, oslh, eh, lkh, hch, _, _⟩ := FH.ex
  obtain ⟨oc, od, dV, kV, doc, pm, an, cdv, ct, osl, e0, lk, hcd, _, _⟩ := F.ex
  rw [e0] at lk ⊢
  obtain ⟨cc, rfl⟩ := codeIn_ref hcd
  have ec : Tw.codeAt K (ga K "_law_places_right") = cc := by
    unfold Tw.codeAt
    rw [lk]
  rw [ec] at TB
  rw [eh] at bh lkh
  have hmT : (tabAt K (ga K "_law_places_right"), lamName "_law_places_right" (defScope s_plc)) ∈ Tb K := List.mem_cons.mpr (.inl rfl)
  refine fn_of lk hcd sc_plc (fun vs H Q E h => ?_) (fun A outer s H vs Q E hr h => ?_)
  · obtain ⟨p, l, a, f, c, ys, ts, ps, rfl, _⟩ := h
    rfl
  · obtain ⟨p, l, a, f, c, ys, ts, ps, rfl, V0, hc, few, gd, k⟩ := h
    refine ⟨_, PSs.nox (pss_cons (ps_set (i := 3) sc_plc.nd rfl (Or.inl rfl) (pe_callB call_len (by rfl) zlen (by decide +kernel) (pa_cons (pv 2) pa_nil)))
    (pss_cons (ps_for PassesOwn.never rfl (pi_range1 rfl zr (pa_cons pe_int pa_nil)) (pg_name (i := 4) sc_plc.nd rfl (Or.inl rfl))
    (pss_cons (ps_asg (pe_tupN (pa_cons (pe_call (E := E0) GX (hr.mono (by decide)) rfl gX FX.kp bX .nil pass0 (pa_cons (pv 0) (pa_cons (pv 3) pa_nil))) (pa_cons (pe_call (E := E0) GX (hr.mono (by decide)) rfl gX FX.kp bX .nil pass0 (pa_cons (pv 0) (pa_cons (pv 3) pa_nil))) pa_nil))) (pg_tup (by rfl) (pgs_cons (pg_name (i := 5) sc_plc.nd rfl (Or.inr rfl)) (pgs_cons (pg_name (i := 6) sc_plc.nd rfl (Or.inr rfl)) pgs_nil))))
    (pss_mid (ps_set (i := 7) sc_plc.nd rfl (Or.inl rfl) (LamX.pe_lamcall (T := Tb K) (TT := TTh K) (k := 6) rfl gH FH.kp lkh hch bh sc_heard rfl (.inl rfl) (heard_gives T trivial) TB rfl hmT (fun q hq e => tb_one hq hmT e) (hr.mono (by decide)) (LamX.lamS_by (sc := defScope s_plc) (by decide +kernel)) rfl (fun _ _ _ _ _ => rfl)
        (fun A outer s H E f c' hr2 => pe_ixOwn (E := E) mG.at_ mG.fn fG GG (hr2.mono (by decide)) bG (passes_call (takes_of rfl rfl rfl rfl) (fun _ _ _ _ h => h)) (pv 1) (pv 5))))
    (pss_mid (ps_if (pt_chain op_le op_lt pe_int (pv 5) (pv 3)) (pss_one (ps_if (PW.pt (pw_or (pt_not (pt_val (pe_callB call_isA (by rfl) zisi (by decide +kernel) (pa_cons (pv 7) (pa_cons (pe_bltn (v := .ty "list") (by rfl) zlist (by decide +kernel) rfl) pa_nil))))) (pw_or1 (pt_cmpR (op_neD hr.units) (pe_call (E := E0) GT (hr.mono (by decide)) rfl gT FT.kp bT .nil pass0 (pa_cons (pv 7) pa_nil)) (pe_lstN (pa_cons (pe_ix ix_list (pv 2) (pv 5) (fun _ _ => rfl)) pa_nil)) (nomark _))))) (pss_one (ps_ret pe_bl)) pss_nil)) (pss_one (ps_if (pt_cmpR (op_neD hr.units) (pv 7) (pe_tupN (pa_cons pe_str (pa_cons (pv 5) pa_nil))) (nomark _)) (pss_one (ps_ret pe_bl)) pss_nil)))
    (pss_mid (ps_set (i := 7) sc_plc.nd rfl (Or.inl rfl) (LamX.pe_lamcall (T := Tb K) (TT := TTh K) (k := 6) rfl gH FH.kp lkh hch bh sc_heard rfl (.inl rfl) (heard_gives T trivial) TB rfl hmT (fun q hq e => tb_one hq hmT e) (hr.mono (by decide)) (LamX.lamS_by (sc := defScope s_plc) (by decide +kernel)) rfl (fun _ _ _ _ _ => rfl)
        (fun A outer s H E f c' hr2 => pe_ixOwn (E := E) mG.at_ mG.fn fG GG (hr2.mono (by decide)) bG (passes_call (takes_of rfl rfl rfl rfl) (fun _ _ _ _ h => h)) (pv 1) (pe_tupN (pa_cons (pv 5) (pa_cons (pv 6) pa_nil))))))
    (pss_one (ps_if (pt_not (pt_chain op_le op_le pe_int (pv 5) (pv 3))) (pss_one (ps_if (pt_cmpR (op_neD hr.units) (pv 7) (pe_tupN (pa_cons pe_str (pa_cons (pv 5) pa_nil))) (nomark _)) (pss_one (ps_ret pe_bl)) pss_nil)) (pss_one (ps_if (pt_not (pt_chain op_le op_le (pv 5) (pv 6) (pv 3))) (pss_one (ps_if (pt_cmpR (op_neD hr.units) (pv 7) (pe_tupN (pa_cons pe_str (pa_cons (pv 6) pa_nil))) (nomark _)) (pss_one (ps_ret pe_bl)) pss_nil)) (pss_one (ps_if (PW.pt (pw_or (pt_not (pt_val (pe_callB call_isA (by rfl) zisi (by decide +kernel) (pa_cons (pv 7) (pa_cons (pe_bltn (v := .ty "list") (by rfl) zlist (by decide +kernel) rfl) pa_nil))))) (pw_or1 (pt_cmpR (op_neD hr.units) (pe_call (E := E0) GT (hr.mono (by decide)) rfl gT FT.kp bT .nil pass0 (pa_cons (pe_ix ix_list (pv 7) pe_int (fun _ _ => rfl)) pa_nil)) (pe_slice sl_listN (pv 2) (po_some (pv 5)) (po_some (pv 6))) (nomark _))))) (pss_one (ps_ret pe_bl)) pss_nil)))))))))))
    (pss_cons (ps_expr (pe_bm PySem.F.plainAttrs_list PySem.F.slot_list_append PySem.F.type_list_append mt_append (pe_ixOwn (E := E0) mG.at_ mG.fn fG GG (hr.mono (by decide)) bG passL (pv 1) (pe_tupN (pa_cons pe_int (pa_cons (pv 3) pa_nil)))) (pa_cons pe_non pa_nil)))
    (pss_one (ps_ret (pe_cmpR (op_eqD hr.units) (pe_call (E := E0) GT (hr.mono (by decide)) rfl gT FT.kp bT .nil pass0 (pa_cons (pe_ixOwn (E := E0) mG.at_ mG.fn fG GG (hr.mono (by decide)) bG passL (pv 1) (pe_tupN (pa_cons pe_int (pa_cons (pv 3) pa_nil)))) pa_nil)) (pv 2) (nomark _))))))), ?_⟩
    have lt : ts.length = ps.length := Paired.length V0.prs
    refine ⟨_, rfl, .ref f, ts.length, rfl, .inl ⟨ts, SqL.of V0.hf, rfl⟩, ?_⟩
    refine ⟨6, rfl, by decide, by decide, for_range (n := 6) (fun i σ H' => ∃ v4 v5 v6 v7 : Option V, σ = [some (.ref p), some (.ref a), some (.ref f), some (.int (ts.length : Nat)), v4, v5, v6, v7] ∧ Hv K H' p l (c + 6 * i) a f ys ts ps) ⟨none, none, none, none, rfl, V0⟩ ?_ ?_⟩
    · rintro i σ H1 hi ⟨v4, v5, v6, v7, rfl, V1⟩
      dsimp only [gName]
      refine ⟨_, rfl, _, rfl, p, l, ts.length, c + 6 * i, rfl, by omega, V1.P, by omega, fun x H2 P2 B2 x1 x2 => ?_⟩
      have V2 := V1.but B2 P2
      refine ⟨_, rfl, _, rfl, p, l, ts.length, c + 6 * i + 3, rfl, by omega, V2.P, by omega, fun y H3 P3 B3 y1 y2 => ⟨sz1000 (by show 2 ≤ 1000; decide), fun t H4 f4 s4 g4 => ?_⟩⟩
      have V4 := ((V2.but B3 P3).same s4).mono (c' := c + 6 * (i + 1)) (by omega)
      refine ⟨t, _, rfl, SqT.of g4, rfl, ?_⟩
      refine ⟨_, _, rfl, _, _, rfl, rfl, ?_⟩
      clear V1 V2 B2 P2 B3 P3 s4 f4 g4
      -- the first lambda
      refine ⟨fun σ' H' => ∃ q : Addr, σ' = [some (.ref p), some (.ref a), some (.ref f), some (.int (ts.length : Nat)), some (.int (0 + ((i : Nat) : Int))), some (.int x), some (.int y), some (.ref q)] ∧ Hv K H' p l (c + 6 * (i + 1)) a f ys ts ps ∧ ((0 ≤ x ∧ x < ps.length ∧ ∃ o, ys[x.toNat]? = some o ∧ H' q = some (.lst [o])) ∨ (¬ (0 ≤ x ∧ x < ps.length) ∧ H' q = some (.tup [.str "place", .int x]))), ?_, ?_⟩
      · refine lam_ix V4 few (fun E H' Q' V' h => ?_) (fun h1 h2 o q H' ho V' g => ⟨q, rfl, V', .inl ⟨h1, h2, o, ho, g⟩⟩) (fun nb q H' V' g => ⟨q, rfl, V', .inr ⟨nb, g⟩⟩)
        obtain ⟨dx, tt, ha, _⟩ := id V'.ra
        exact ⟨_, rfl, _, rfl, a, dx, _, rfl, ha, h⟩
      rintro σ5 H5 ⟨q, rfl, V5, h5⟩
      refine ⟨fun σ' H' => σ' = [some (.ref p), some (.ref a), some (.ref f), some (.int (ts.length : Nat)), some (.int (0 + ((i : Nat) : Int))), some (.int x), some (.int y), some (.ref q)] ∧ Hv K H' p l (c + 6 * (i + 1)) a f ys ts ps, ?_, ?_⟩
      · refine ⟨_, rfl, _, _, rfl, rfl, _, rfl, ?_⟩
        rcases h5 with ⟨x0, xn, o, ho, g⟩ | ⟨nb, g⟩
        · refine iteTe (decide_eq_true x0) ?_
          refine ⟨_, rfl, _, _, rfl, rfl, _, rfl, ?_⟩
          refine iteTe (decide_eq_true (by omega)) ?_
          refine ⟨_, rfl, .ref q, .ty "list", _, _, _, rfl, .ty "list", .inl (Bv.lst g).ty, kit_ty (r := true) (by decide +kernel), _, rfl, iteF ?_⟩
          obtain ⟨q', eq⟩ : ∃ q', ps[x.toNat]? = some q' := ⟨_, List.getElem?_eq_getElem (by omega)⟩
          obtain ⟨b, eb, Ib⟩ := its_at V5.its eq
          rw [ho] at eb
          cases eb
          obtain ⟨tv, et, t', rfl, ht'⟩ := paired_r V5.prs eq
          refine ⟨_, rfl, q, [.ref b], [q'], rfl, g, .cons ⟨b, rfl, Ib⟩ .nil, by show 1 ≤ 900; decide, fun g6 H6 us f6 s6 gu pu => ?_⟩
          have V6 := V5.same s6
          have at' : atI ts x = some (.ref t') := by
            have := atI_nat et
            rwa [Int.toNat_of_nonneg x0] at this
          refine ⟨_, rfl, _, rfl, f, ts, x, _, rfl, rfl, SqL.of V6.hf, at', sz1000 (by show 1 ≤ 1000; decide), fun e7 H7 f7 m7 s7 g7 => ?_⟩
          refine ne_prs (ps := [q']) (fun z hz => by rw [List.mem_singleton.mp hz]; exact gd _ (List.mem_of_getElem? eq)) (s7 _ _ gu) (pu.keep fun t xs z => s7 _ _ z) g7 (.cons ⟨t', rfl, s7 _ _ (s6 _ _ ht')⟩ .nil) ⟨_, rfl, iteF ⟨rfl, V6.same s7⟩⟩
        · by_cases x0 : 0 ≤ x
          · refine iteTe (decide_eq_true x0) ?_
            refine ⟨_, rfl, _, _, rfl, rfl, _, rfl, ?_⟩
            refine iteFe (decide_eq_false (by omega)) ?_
            exact ⟨_, rfl, _, rfl, sz1000 (by show 2 ≤ 1000; decide), fun t5 H6 f6 s6 g6 => ne_place (s6 _ _ g) g6 ⟨_, rfl, iteF ⟨rfl, V5.same s6⟩⟩⟩
          · refine iteFe (decide_eq_false x0) ?_
            refine ⟨_, rfl, iteF ?_⟩
            exact ⟨_, rfl, _, rfl, sz1000 (by show 2 ≤ 1000; decide), fun t5 H6 f6 s6 g6 => ne_place (s6 _ _ g) g6 ⟨_, rfl, iteF ⟨rfl, V5.same s6⟩⟩⟩
      rintro σ6 H6 ⟨rfl, V6⟩
      clear h5 V5 V4
      -- the second lambda
      refine ⟨fun σ' H' => ∃ q : Addr, σ' = [some (.ref p), some (.ref a), some (.ref f), some (.int (ts.length : Nat)), some (.int (0 + ((i : Nat) : Int))), some (.int x), some (.int y), some (.ref q)] ∧ Hv K H' p l (c + 6 * (i + 1)) a f ys ts ps ∧ ((0 ≤ x ∧ x ≤ y ∧ y ≤ ps.length ∧ ∃ u, H' q = some (.lst [.ref u]) ∧ H' u = some (.lst ((ys.take y.toNat).drop x.toNat))) ∨ (¬ (0 ≤ x ∧ x ≤ ps.length) ∧ H' q = some (.tup [.str "place", .int x])) ∨ ((0 ≤ x ∧ x ≤ ps.length) ∧ ¬ (x ≤ y ∧ y ≤ ps.length) ∧ H' q = some (.tup [.str "place", .int y]))), ?_, ?_⟩
      · refine lam_two V6 few (i := x) (j := y) (fun E H' Q' V' h => ?_) (fun h1 h2 h3 u q H' V' g gu => ⟨q, rfl, V', .inl ⟨h1, h2, h3, u, g, gu⟩⟩) (fun nb q H' V' g => ⟨q, rfl, V', .inr (.inl ⟨nb, g⟩)⟩) (fun hx nb q H' V' g => ⟨q, rfl, V', .inr (.inr ⟨hx, nb, g⟩)⟩)
        obtain ⟨dx, tt, ha, _⟩ := id V'.ra
        exact ⟨_, rfl, _, rfl, _, rfl, sz1000 (by show 2 ≤ 1000; decide), fun u H2 f2 s2 g2 => ⟨a, dx, _, rfl, s2 _ _ ha, h u H2 f2 s2 g2⟩⟩
      rintro σ7 H7 ⟨q2, rfl, V7, h7⟩
      have fin : ∀ {H' : Hp}, Hv K H' p l (c + 6 * (i + 1)) a f ys ts ps → ∃ v4 v5 v6 v7 : Option V, [some (V.ref p), some (.ref a), some (.ref f), some (.int (ts.length : Nat)), some (.int (0 + ((i : Nat) : Int))), some (.int x), some (.int y), some (.ref q2)] = [some (.ref p), some (.ref a), some (.ref f), some (.int (ts.length : Nat)), v4, v5, v6, v7] ∧ Hv K H' p l (c + 6 * (i + 1)) a f ys ts ps := fun V' => ⟨_, _, _, _, rfl, V'⟩
      refine ⟨_, rfl, _, _, rfl, rfl, _, rfl, ?_⟩
      rcases h7 with ⟨x0, xy, yn, u, g, gu⟩ | ⟨nb, g⟩ | ⟨⟨x0, xn⟩, nb, g⟩
      · refine iteTe (decide_eq_true x0) ?_
        refine ⟨_, rfl, _, _, rfl, rfl, _, rfl, ?_⟩
        refine iteFe (by rw [decide_eq_true (by omega : x ≤ ((ts.length : Nat) : Int))]; rfl) ?_
        refine ⟨_, rfl, _, rfl, _, _, rfl, rfl, _, rfl, ?_⟩
        refine iteTe (decide_eq_true xy) ?_
        refine ⟨_, rfl, _, _, rfl, rfl, _, rfl, ?_⟩
        refine iteFe (by rw [decide_eq_true (by omega : y ≤ ((ts.length : Nat) : Int))]; rfl) ?_
        refine ⟨_, rfl, .ref q2, .ty "list", _, _, _, rfl, .ty "list", .inl (Bv.lst g).ty, kit_ty (r := true) (by decide +kernel), _, rfl, iteF ?_⟩
        have ln := its_len V7.its
        refine ⟨_, rfl, q2, _, 0, .ref u, rfl, rfl, SqL.of g, rfl, u, (ys.take y.toNat).drop x.toNat, (ps.take y.toNat).drop x.toNat, rfl, gu, paired_drop _ (paired_take _ V7.its), by rw [List.length_drop, List.length_take]; omega, fun g8 H8 us f8 s8 g8' pu => ?_⟩
        have V8 := V7.same s8
        refine ⟨_, rfl, _, rfl, _, rfl, _, rfl, _, rfl, f, ts, rfl, SqL.of V8.hf, fun g9 H9 f9 s9 g9' => ?_⟩
        rw [cut_both ts x0 xy (by omega)] at g9'
        have V9 := V8.same s9
        exact ne_prs (ps := (ps.take y.toNat).drop x.toNat) (fun z hz => gd _ (List.mem_of_mem_take (List.mem_of_mem_drop hz))) (s9 _ _ g8') (pu.keep fun t xs z => s9 _ _ z) g9' (paired_drop _ (paired_take _ V9.prs)) ⟨_, rfl, iteF (fin V9)⟩
      · by_cases x0 : 0 ≤ x
        · refine iteTe (decide_eq_true x0) ?_
          refine ⟨_, rfl, _, _, rfl, rfl, _, rfl, ?_⟩
          refine iteTe (by rw [decide_eq_false (by omega : ¬ x ≤ ((ts.length : Nat) : Int))]; rfl) ?_
          exact ⟨_, rfl, _, rfl, sz1000 (by show 2 ≤ 1000; decide), fun t5 H8 f8 s8 g8 => ne_place (s8 _ _ g) g8 ⟨_, rfl, iteF (fin (V7.same s8))⟩⟩
        · refine iteFe (decide_eq_false x0) ?_
          refine ⟨_, rfl, iteT ?_⟩
          exact ⟨_, rfl, _, rfl, sz1000 (by show 2 ≤ 1000; decide), fun t5 H8 f8 s8 g8 => ne_place (s8 _ _ g) g8 ⟨_, rfl, iteF (fin (V7.same s8))⟩⟩
      · refine iteTe (decide_eq_true x0) ?_
        refine ⟨_, rfl, _, _, rfl, rfl, _, rfl, ?_⟩
        refine iteFe (by rw [decide_eq_true (by omega : x ≤ ((ts.length : Nat) : Int))]; rfl) ?_
        refine ⟨_, rfl, _, rfl, _, _, rfl, rfl, _, rfl, ?_⟩
        by_cases xy : x ≤ y
        · refine iteTe (decide_eq_true xy) ?_
          refine ⟨_, rfl, _, _, rfl, rfl, _, rfl, ?_⟩
          refine iteTe (by rw [decide_eq_false (by omega : ¬ y ≤ ((ts.length : Nat) : Int))]; rfl) ?_
          exact ⟨_, rfl, _, rfl, sz1000 (by show 2 ≤ 1000; decide), fun t5 H8 f8 s8 g8 => ne_place (s8 _ _ g) g8 ⟨_, rfl, iteF (fin (V7.same s8))⟩⟩
        · refine iteFe (decide_eq_false xy) ?_
          refine ⟨_, rfl, iteT ?_⟩
          exact ⟨_, rfl, _, rfl, sz1000 (by show 2 ≤ 1000; decide), fun t5 H8 f8 s8 g8 => ne_place (s8 _ _ g) g8 ⟨_, rfl, iteF (fin (V7.same s8))⟩⟩
    · rintro σ H1 ⟨v4, v5, v6, v7, rfl, V1⟩
      have ln := its_len V1.its
      have full : ∀ {α : Type} (zs : List α), zs.length = ts.length → (zs.take (((ts.length : Nat) : Int)).toNat).drop (0 : Int).toNat = zs := fun zs h => by
        rw [Int.toNat_natCast, List.take_of_length_le (by omega)]
        rfl
      obtain ⟨dx, tt, ha, _⟩ := id V1.ra
      refine ⟨_, rfl, _, rfl, sz1000 (by show 2 ≤ 1000; decide), fun u H2 f2 s2 g2 => ⟨a, dx, _, rfl, s2 _ _ ha, .inr ⟨a, u, 0, (ts.length : Nat), rfl, g2, a, 0, (ts.length : Nat), ys, ps, rfl, (V1.same s2).ra, (V1.same s2).its, by omega, fun _ l3 H3 f3 s3 g3 => ?_, fun nb => absurd (by omega) nb, fun _ nb => absurd (by omega) nb⟩⟩⟩
      have s13 := s2.trans s3
      rw [full ys (by omega)] at g3
      refine ⟨.inl ⟨rfl, _, SqL.of g3⟩, l3, _, _, rfl, rfl, g3, Nat.lt_of_le_of_lt (show ys.length ≤ 30 by omega) (by decide), ?_⟩
      have V3 := V1.same (same_upd (o := .lst (ys ++ [.non])) s13 (s2.free f3))
      generalize upd H3 l3 (.lst (ys ++ [.non])) = H4 at V3 ⊢
      obtain ⟨dx', tt', ha', _⟩ := id V3.ra
      refine ⟨_, rfl, _, rfl, sz1000 (by show 2 ≤ 1000; decide), fun u5 H5 f5 s5 g5 => ⟨a, dx', _, rfl, s5 _ _ ha', .inr ⟨a, u5, 0, (ts.length : Nat), rfl, g5, a, 0, (ts.length : Nat), ys, ps, rfl, (V3.same s5).ra, (V3.same s5).its, by omega, fun _ l6 H6 f6 s6 g6 => ?_, fun nb => absurd (by omega) nb, fun _ nb => absurd (by omega) nb⟩⟩⟩
      rw [full ys (by omega)] at g6
      have V6 := (V3.same s5).same s6
      refine ⟨l6, ys, ps, rfl, g6, V6.its, by omega, fun g7 H7 us f7 s7 gu pu => ?_⟩
      have V7 := V6.same s7
      refine ⟨_, rfl, _, _, .lst (SqL.of gu) (dp_prs pu), .lst (SqL.of V7.hf) (dp_prs V7.prs), shaped_prs gd, shaped_prs gd, ?_⟩
      rw [eqv_prs gd]
      exact k H7 (V7.mono (by omega))
end
end K04
/-! Glg: list(o.m()), m a generator def, by its walk. -/
namespace Tw
open PySem PyProof.Rows L2 GenW

section
variable {X : Cx} {k : Nat} {f C : Addr} {fd : FuncData} {ps : List Str} {sp : SpW} {dvs : List V} {ds : List Value} {m : Str} {pins : List (Addr × Obj)} {σ : Sg}
/-- the same within a built-in -/
abbrev inA (X : Cx) (A : Around) : Cx := { X with A := A }
theorem inv_in {H : Hp} {s : Shared} {A : Around} (h1 : X.calm = true → A.handled = none) (h2 : A.frames = some X.stack) (I : Inv X pins σ H s) : Inv (inA X A) pins σ H s := by
  obtain ⟨⟨a1, a2, a3, a4, a5, a6, a7, a8, a9, a10, a11, a12, a13, a14, a15, a16, a17, a18⟩, b2, b3, b4, b5, b6, b7, b8, b9, b10, b11⟩ := I
  exact ⟨⟨a1, a2, a3, a4, a5, a6, a7, a8, h1, h2, a11, a12, a13, a14, a15, a16, a17, a18⟩, b2, b3, b4, b5, b6, b7, b8, b9, b10, b11⟩
theorem inv_out {H : Hp} {s : Shared} {A : Around} (h1 : X.calm = true → X.A.handled = none) (h2 : X.A.frames = some X.stack) (I : Inv (inA X A) pins σ H s) : Inv X pins σ H s := by
  obtain ⟨⟨a1, a2, a3, a4, a5, a6, a7, a8, a9, a10, a11, a12, a13, a14, a15, a16, a17, a18⟩, b2, b3, b4, b5, b6, b7, b8, b9, b10, b11⟩ := I
  exact ⟨⟨a1, a2, a3, a4, a5, a6, a7, a8, h1, h2, a11, a12, a13, a14, a15, a16, a17, a18⟩, b2, b3, b4, b5, b6, b7, b8, b9, b10, b11⟩
/-- the target that nothing is bound to -/
abbrev tgN : Expr := .Name "_" ⟨0, 0, 0, 0⟩
theorem drainW {it S : Addr} {J : It} {tn : Nat → List Addr → Heap → Array GenState → Prop} {A : Around} {res : Value} {R : Result → Shared → Prop} {W : Nat → Nat → Hp → Prop} {Qf : Hp → Prop}
    (T : TurnG X.prog X.w X.K X.mg X.base tgN J it k X.stack tn) (hA : X.A = A.in1) (hc : X.calm = true) (hr : Room k X.A)
    (turn : ∀ i m H, W i m H → (J.stop i H ∧ ∀ H', Same H H' → Qf H') ∨ (J.go i H ∧ ∀ x H', J.yld i H x H' → ∃ acc, H' S = some (.lst acc) ∧ acc.length < sizeLine ∧ ∃ m', m' < m ∧ W (i + 1) m' (upd H' S (.lst (acc ++ [x])))))
    (hend : ∀ s' H', Inv X pins σ H' s' → Qf H' → R (.ok (.ret res)) s') :
    ∀ (m i : Nat) (fp : List Addr) (s : Shared) (H : Hp), Inv X pins σ H s → (∀ b ∈ fp, FpOk X pins H b) → tn i fp s.heap s.gens → W i m H → codeAny (model X.prog X.w) A (.builtin "list.extend.loop" ⟨[.ref S, .ref it, res], []⟩) R s := by
  intro m
  induction m using Nat.strongRecOn with
  | _ m ih =>
    intro i fp s H I hf st w
    refine codeAny_builtin F.entry_extend_loop ?_
    rw [Around.under_plainId F.plain_extend_loop _]
    show wpAny _ A.in1 (pyNext (.ref it) >>= _) _ _ s
    rw [← hA]
    refine wpAny_bind ?_
    rcases turn i m H w with ⟨stop, q⟩ | ⟨go, q⟩
    · refine thnF (T.done X rfl rfl rfl rfl rfl rfl hc hr i fp pins s σ H I hf st stop) fun r s1 ⟨er, H', sm, I'⟩ => ?_
      subst er
      exact wpAny_pure (hend _ H' I' (q H' sm))
    · refine thnF (T.item X rfl rfl rfl rfl rfl rfl hc hr i fp pins s σ H I hf st go) fun r s1 ⟨u, er, h1⟩ => ?_
      subst er
      show wpAny _ X.A (letOwnedTupleGo tgN (.ref it) u >>= fun _ => updateSeq S (·.push u) >>= _) _ _ _
      refine wpAny_bind (thnF h1 fun _ s1 ⟨x, H7, fp7, I7, r7, y7, st7, n7⟩ => ?_)
      obtain ⟨acc, hD, hz, m', hm, w'⟩ := q x H7 y7
      obtain ⟨hz', its, n, ri, e⟩ := I7.hok S _ hD
      have hl := ri.length
      show wpAny _ X.A (updateSeq S (·.push u) >>= _) _ _ _
      refine wpAny_bind (wpAny_updateSeq e rfl (wpAny_pure ⟨plainId_quiet F.plain_extend_loop _, ?_⟩) (by rw [List.size_toArray]; omega) (by rw [Array.size_push, List.size_toArray]; omega))
      have up := Heap.get?_update_self (Obj.mapSeq (·.push u)) e rfl
      have nS : ∀ b ∈ fp7, b ≠ S := fun b hb z => by
        have := (n7 b hb).1
        rw [z, hD] at this
        cases this
      have kb : ∀ b o, b ≠ S → s1.heap.get? b = some o → (s1.heap.update S (Obj.mapSeq (·.push u))).get? b = some o := fun b o hb e => (Heap.get?_update_other _ _ (Ne.symm hb)).trans e
      have I8 : Inv X pins σ (upd H7 S (.lst (acc ++ [x]))) { s1 with heap := s1.heap.update S (Obj.mapSeq (·.push u)) } := 
        I7.write (t' := s1.toks) (by rw [hD]; trivial) (.inl rfl) (fun b u hb q => kb b u hb q) ⟨_, up⟩ ⟨by rw [List.length_append]; exact hz, its ++ [u], n + 1, ri.append (.cons r7 .nil), by rw [up]; simp [Obj.mapSeq]⟩
      refine ih m' hm (i + 1) fp7 _ _ I8 (fun b hb => ⟨(upd_ne (nS b hb)).trans (n7 b hb).1, (n7 b hb).2⟩) ?_ w'
      exact T.keep _ _ _ _ _ st7 fun b hb o e => kb b o (nS b hb) e
/-- list(a generator) -/
theorem call_listW {J : It} {n : Nat} {s s' : Shared} {H : Hp} {u : Value} {Q : VK} (hr : Room (k + 3) X.A) (hc : X.calm = true) (I : Inv X pins σ H s) (hgo : ∀ i H, J.go i H → i < n) (hst : ∀ i H, J.stop i H → i ≤ n) (G : MadeG X.prog X.w X.K X.mg X.base k X.stack J n s u s')
    (q : ∀ S, H S = none → ∃ W : Nat → Nat → Hp → Prop, (∃ m, W 0 m (upd H S (.lst []))) ∧ ∀ i m H, W i m H → (J.stop i H ∧ ∀ H', Same H H' → Q (.ref S) H') ∨ (J.go i H ∧ ∀ x H', J.yld i H x H' → ∃ acc, H' S = some (.lst acc) ∧ acc.length < sizeLine ∧ ∃ m', m' < m ∧ W (i + 1) m' (upd H' S (.lst (acc ++ [x]))))) :
    wpAny (model X.prog X.w) X.A (call (.type "list") [u]) (EP X pins σ Q) X.xe s' := by
  obtain ⟨a, g, fpc, rfl, os, hb, kp, ga, yg⟩ := G
  have I1 : Inv X pins σ H s' := I.call' (ch := []) os (Un.kept kp) (I.hok.kept kp) hb fun b z => by simp at z
  have T := runG (P := X.prog) (w := X.w) (K := X.K) (mg := X.mg) (base := X.base) (k := k) (stk := X.stack) (J := J) (tg := tgN) (n := n) (a := a) (g := g) hgo hst
  have f1 : ∀ b ∈ fpc, FpOk X pins H b := fun b hb => I.fpOk (yg b hb) (I.hok.fresh (yg b hb))
  have hg : s'.heap.IsGen a g := let ⟨_, _, _, hg, _⟩ := ga; hg
  obtain ⟨oa, _, _, ea, _⟩ := id hg
  have lta := Heap.lt_size ea
  have hSa : s'.heap.objs.size ≠ a := Ne.symm (Nat.ne_of_lt lta)
  refine callType_codes (Q₁ := fun obj s₁ => obj = .ref s'.heap.objs.size ∧ s₁ = { s' with heap := s'.heap.push { cls := .type "list", data := .seq #[] } }) F.called_list (F.typeCall_list_1 _) F.entry_list_init
    (code_list_new _ ⟨rfl, rfl⟩) fun obj s₁ h₁ => ?_
  obtain ⟨rfl, rfl⟩ := h₁
  have hS : (s'.heap.push { cls := .type "list", data := .seq #[] }).get? s'.heap.objs.size = some { cls := .type "list", data := .seq #[] } := Heap.get?_push_size _ rfl
  refine ⟨⟨_, hS, rfl⟩, F.args_list_init_2 _ _, ?_⟩
  show wpAny _ X.A.in1.in1 (do let old ← Builtin.List.listItems (.ref s'.heap.objs.size); Builtin.List.listUpdate (.ref s'.heap.objs.size) (fun _ => #[]); letGo old.toList.reverse; Builtin.List.listExtendWith (.ref s'.heap.objs.size) (.ref a) .none) _ _ _
  refine wpAny_bind ?_
  unfold Builtin.List.listItems
  refine wpAny_bind (wpAny_seqItems hS rfl (wpAny_pure ?_))
  show wpAny _ X.A.in1.in1 (updateSeq s'.heap.objs.size (fun _ => #[]) >>= fun _ => letGo (#[] : Array Value).toList.reverse >>= fun _ => Builtin.List.listExtendWith (.ref s'.heap.objs.size) (.ref a) .none) _ _ _
  refine wpAny_bind (wpAny_updateSeq hS rfl ?_)
  have hS2 := Heap.get?_update_self (Obj.mapSeq (fun _ => (#[] : Array Value))) hS rfl
  refine wpAny_bind (wpAny_letGo ?_)
  unfold Builtin.List.listExtendWith
  have up : ∀ (h : Heap) (f : Obj → Obj), (∀ b o, s'.heap.get? b = some o → h.get? b = some o) → ∀ b o, s'.heap.get? b = some o → (h.update s'.heap.objs.size f).get? b = some o := fun h f q b o e =>
    (Heap.get?_update_other _ _ (Ne.symm (Nat.ne_of_lt (Heap.lt_size e)))).trans (q b o e)
  have k1 : ∀ b o, s'.heap.get? b = some o → (s'.heap.push { cls := .type "list", data := .seq #[] }).get? b = some o := fun b o e => Heap.get?_push_of_some _ e
  have k2 := up _ (Obj.mapSeq (fun _ => (#[] : Array Value))) k1
  have gty : ∀ {h : Heap}, (∀ b o, s'.heap.get? b = some o → h.get? b = some o) → h.IsGen a g := fun {h} q => hg.keeps q
  refine wpAny_bind (wpAny_typeOf (Heap.IsGen.typeIs (s := { s' with heap := _ }) (gty k2)) ?_)
  have h1 : Builtin.List.listSameRef (.ref s'.heap.objs.size) (.ref a) = false := by simp [Builtin.List.listSameRef, hSa]
  have h2 : (Value.type "generator" == Value.type "list") = false := by decide
  have h3 : (Value.type "generator" == Value.type "tuple") = false := by decide
  simp only [h1, h2, h3, Bool.or_false, Bool.false_eq_true, if_false]
  refine wpAny_bind (wpAny_pyIter_gen (s := { s' with heap := _ }) (gty k2) ?_)
  refine wpAny_bind (wpAny_holding ?_)
  unfold Builtin.List.listLengthHint
  refine wpAny_bind (wpAny_specialOf (Heap.IsGen.typeIs (s := { s' with heap := _ }) (gty k2)) F.gen_no_len ?_)
  show wpAny _ X.A.in1.in1 (specialOf (Value.ref a) (Str.ofString "__length_hint__") >>= _) _ _ _
  refine wpAny_bind (wpAny_specialOf (Heap.IsGen.typeIs (s := { s' with heap := _ }) (gty k2)) F.gen_no_hint ?_)
  refine wpAny_pure ?_
  show wpAny _ X.A.in1.in1 (rule "list.extend.makes-room" >>= fun _ => Builtin.List.listTouch (.ref s'.heap.objs.size) >>= fun _ =>
    again (.builtin "list.extend.loop" ⟨[.ref s'.heap.objs.size, .ref a, .none], []⟩)) _ _ _
  refine wpAny_bind (wpAny_rule ?_)
  refine wpAny_bind ?_
  show wpAny _ X.A.in1.in1 (updateSeq s'.heap.objs.size (·.push .none) >>= fun _ => updateSeq s'.heap.objs.size (·.pop)) _ _ _
  refine wpAny_bind (wpAny_updateSeq hS2 rfl ?_)
  have hS3 := Heap.get?_update_self (Obj.mapSeq (·.push Value.none)) hS2 rfl
  refine wpAny_updateSeq (hz := by seq_fits) hS3 rfl ?_
  have hS4 := Heap.get?_update_self (Obj.mapSeq (·.pop)) hS3 rfl
  have k4 := up _ (Obj.mapSeq (·.pop)) (up _ (Obj.mapSeq (·.push Value.none)) k2)
  refine wpAny_pure ⟨plainId_quiet F.plain_extend_loop _, ?_⟩
  have hSn : H s'.heap.objs.size = none := I1.hok.fresh (Nat.le_refl _)
  obtain ⟨W, ⟨m0, w0⟩, turn⟩ := q _ hSn
  generalize hp4 : ((((s'.heap.push { cls := .type "list", data := .seq #[] }).update s'.heap.objs.size (Obj.mapSeq (fun _ => (#[] : Array Value)))).update s'.heap.objs.size (Obj.mapSeq (·.push Value.none))).update s'.heap.objs.size (Obj.mapSeq (·.pop))) = h4 at hS4 k4 ⊢
  have I4 : Inv X pins σ (upd H s'.heap.objs.size (.lst [])) { s' with heap := h4 } :=
    I1.laid (t' := s'.toks) k4 (Nat.le_refl _) ⟨Nat.zero_le _, [], _, .nil, hS4⟩
  have hr2 : Room (k + 1) X.A.in1.in1 := (Room.in1 (k := k + 2) hr).in1
  have hfr := I1.ok.frames
  have hhd := I1.ok.hd
  have IX : Inv (inA X X.A.in1.in1) pins σ (upd H s'.heap.objs.size (.lst [])) { s' with heap := h4 } := inv_in (fun _ => hr2.hd) hfr I4
  have fS : ∀ b ∈ fpc, FpOk (inA X X.A.in1.in1) pins (upd H s'.heap.objs.size (.lst [])) b := fun b hb => ⟨(upd_ne (fun z => by
    obtain ⟨o, e, _⟩ := T.obj _ _ _ _ ga b hb
    have := Heap.lt_size e
    rw [z] at this
    exact Nat.lt_irrefl _ this)).trans (f1 b hb).1, (f1 b hb).2⟩
  have ga4 := T.keep 0 fpc s'.heap h4 s'.gens ga fun b _ o e => k4 b o e
  exact drainW (X := inA X X.A.in1.in1) (A := X.A.in1) (W := W) (Qf := fun H' => Q (.ref s'.heap.objs.size) H') T rfl hc hr2 turn (fun s2 H2 I2 q2 => ⟨rfl, .ref s'.heap.objs.size, H2, inv_out hhd hfr I2, rfl, q2⟩) m0 0 fpc _ _ IX fS ga4 w0
variable {o : Expr} {ta : TE} {nm : Str} {p pos pos' apos : Pos}
/-- list(o.m()) -/
def tListW (C : Addr) (m : Str) (sp : SpW) (dvs : List V) (ta : TE) : TE := fun σ H Q => ta σ H fun x H1 => ∃ a dx fs J n, x = .ref a ∧ H1 a = some (.ins C dx fs) ∧ fs.lookup m = none ∧ (∀ i H, J.go i H → i < n) ∧ (∀ i H, J.stop i H → i ≤ n) ∧ sp (x :: dvs) H1 J n ∧
  ∀ S, H1 S = none → ∃ W : Nat → Nat → Hp → Prop, (∃ m, W 0 m (upd H1 S (.lst []))) ∧ ∀ i m H, W i m H → (J.stop i H ∧ ∀ H', Same H H' → Q (.ref S) H') ∨ (J.go i H ∧ ∀ x H', J.yld i H x H' → ∃ acc, H' S = some (.lst acc) ∧ acc.length < sizeLine ∧ ∃ m', m' < m ∧ W (i + 1) m' (upd H' S (.lst (acc ++ [x]))))
theorem pe_listW {pl : Sem Bool} (he : PE X o ta) (c : Cls X.K C) (hm : Meth X.K C m f) (F : FnW X.prog X.w X.K X.mg X.base k f fd ps sp) (hr : Room (k + 3) X.A) (hc : X.calm = true) (hb : Binds X.K fd ps ds) (hd : Vals dvs ds)
    (hg : Gl X nm) (hmg : X.mg nm = none) (hv : bootBuiltins nm = some (.type "list")) (hnm : nm ≠ "__name__" := by decide) (hdb : (nm == ("__debug__" : Str)) = false := by decide)
    (ht : eval (.Call (.Attribute o m apos) [] [] pos') X.env = (do
      let ov ← eval o X.env
      standAt apos.atName
      let (f, first) ← holding [ov] (getMethod ov m pl)
      callWith pos' f first (backTo pos' (starEach [] X.env)) (backToKw pos' (keywordEach [] X.env))) := by rfl)
    (hs : starEach [.Call (.Attribute o m apos) [] [] pos'] X.env = (false, eval (.Call (.Attribute o m apos) [] [] pos') X.env) :: starEach [] X.env := by rfl) :
    PE X (.Call (.Name nm p) [.Call (.Attribute o m apos) [] [] pos'] [] pos) (tListW C m sp dvs ta) := by
  refine ⟨fun pins s σ H Q I h => ?_⟩
  refine wpAny_Call_Name_kw (ld_blt I hg hmg hv ?_ hnm hdb)
  refine PyProof.Rows.callWith_type1 ?_ hs rfl
  rw [hs]
  show wpAny _ _ (spliced ((false, eval (.Call (.Attribute o m apos) [] [] pos') X.env) :: backTo pos (starEach [] X.env))) _ _ s
  refine Calls.spliced_cons ?_
  refine PySem.W.methodCall_KW (pl := pl) (thn (he.run pins s σ H _ I h) fun u s1 ⟨x, H1, I1, rx, a, dx, fs, J, n, ex, ea, l, hgo, hst, q, hR⟩ => ?_) ht
  subst ex
  obtain rfl : u = Value.ref a := rx
  refine getmeth_ok I1 ea c hm l (PySem.W.callWith_K0 (first := [.ref a]) I1.kIn hm.kp ?_)
  have r1 : Vals [V.ref a] [Value.ref a] := .cons rfl .nil
  have r2 : Vals ([V.ref a] ++ dvs) ([Value.ref a] ++ ds) := r1.append hd
  have hl : ([Value.ref a] ++ ds).length = ps.length := r2.length ▸ F.len _ _ _ _ q
  refine wpAny_call (codeAny_mono (F.run X.A X.stack s1 H1 ⟨[.ref a], []⟩ ([.ref a] ++ ds) ([.ref a] ++ dvs) J n (hr.mono (by omega)) I1.env0 (hb s1 [.ref a] I1.kIn hl) r2 q) fun r s' hq => ?_)
  cases r with
  | error e => exact hq.elim
  | ok fl =>
    cases fl with
    | ret u => exact Calls.spliced_nil (call_listW hr hc I1 hgo hst hq hR)
    | _ => exact hq.elim
end
end Tw
/-! Glj: list(o.m()) where the walk gives tuples. -/
namespace Tw
open PySem PyProof.Rows L2 GenW
theorem sameU {H H' : Hp} {l : Addr} {o : HO} (s : Same H H') (h : H l = none) : Same H (upd H' l o) := fun b u e => by
  rw [upd_ne (fun z => by
    rw [z, h] at e
    cases e)]
  exact s b u e
/-- the tuples, one after another -/
def TupsJ (Rt : Nat → List V → Prop) (G : Hp) (acc : List V) : Prop := ∀ j, j < acc.length → ∃ T xs, acc[j]? = some (.ref T) ∧ G T = some (.tup xs) ∧ Rt j xs
theorem listW_jt {n : Nat} {Pre : Hp → Prop} {Rt : Nat → List V → Prop} {H : Hp} {S : Addr} {Qf : Hp → Prop} (hS : H S = none) (hn : n ≤ 900) (pre : Pre (upd H S (.lst []))) (fin : ∀ G acc, Same H G → G S = some (.lst acc) → acc.length = n → TupsJ Rt G acc → Qf G) :
    ∃ W : Nat → Nat → Hp → Prop, (∃ m, W 0 m (upd H S (.lst []))) ∧ ∀ i m H, W i m H → ((Jt n Pre Rt).stop i H ∧ ∀ H', Same H H' → Qf H') ∨ ((Jt n Pre Rt).go i H ∧ ∀ x H', (Jt n Pre Rt).yld i H x H' → ∃ acc, H' S = some (.lst acc) ∧ acc.length < sizeLine ∧ ∃ m', m' < m ∧ W (i + 1) m' (upd H' S (.lst (acc ++ [x])))) := by
  refine ⟨fun i m G => m = n - i ∧ i ≤ n ∧ (i = 0 → Pre G) ∧ ∃ acc, G S = some (.lst acc) ∧ acc.length = i ∧ Same H G ∧ TupsJ Rt G acc, ⟨n, rfl, Nat.zero_le _, fun _ => pre, [], upd_same, rfl, same_new hS, fun j hj => absurd hj (Nat.not_lt_zero _)⟩, ?_⟩
  rintro i m G ⟨rfl, hi, hp, acc, gS, rfl, sm, tj⟩
  by_cases e : acc.length = n
  · exact .inl ⟨⟨e, hp⟩, fun H' s' => fin H' acc (sm.trans s') (s' _ _ gS) e fun j hj => let ⟨T, xs, h1, h2, h3⟩ := tj j hj; ⟨T, xs, h1, s' _ _ h2, h3⟩⟩
  · refine .inr ⟨⟨by omega, hp⟩, fun x H' ⟨T, xs, ex, hT, s', gT, r⟩ => ?_⟩
    subst ex
    have gS' := s' _ _ gS
    refine ⟨acc, gS', Nat.lt_of_le_of_lt (show acc.length ≤ 900 by omega) (by decide), n - (acc.length + 1), by omega, rfl, by omega, fun z => absurd z (Nat.succ_ne_zero _), acc ++ [.ref T], upd_same, by rw [List.length_append]; rfl, sameU (sm.trans s') hS, fun j hj => ?_⟩
    have kp : ∀ t ys, H' t = some (.tup ys) → upd H' S (.lst (acc ++ [.ref T])) t = some (.tup ys) := fun t ys z => by
      rw [upd_ne (fun e => by
        rw [e, gS'] at z
        cases z)]
      exact z
    rw [List.length_append, List.length_singleton] at hj
    by_cases hl : j < acc.length
    · obtain ⟨T', ys, h1, h2, h3⟩ := tj j hl
      exact ⟨T', ys, by rw [List.getElem?_append_left hl]; exact h1, kp _ _ (s' _ _ h2), h3⟩
    · have : j = acc.length := by omega
      subst this
      exact ⟨T, xs, by simp, kp _ _ gT, r⟩
end Tw
namespace K04
open PySem PySem.Spec PyProof.Rows L2 He Tw
abbrev s_law : Stmt := topS 42
abbrev N_law : List Str := ["_law_script", "_law_pen_here", "_law_turn", "_law_pairs_here", "_law_row"]
theorem sc_law : FnScope N_law ["_law_script"] (defScope s_law) := ⟨rfl, rfl, rfl, by decide +kernel, rfl, by decide +kernel, by decide +kernel⟩
def spLaw (K : Fg) : Sp := fun vs H Q _ => ∃ (a : Addr) (ns : List Int), vs = [.ref a] ∧ SqL K H a (ns.map V.int) ∧ ns.length ≤ 63 ∧ LamX.Tabs (Tb K) H ∧ ∀ H', Q (.bl true) H'
theorem paired_of {α β : Type} {R : α → β → Prop} : ∀ {xs : List α} {ys : List β}, xs.length = ys.length → (∀ (j : Nat) (x : α) (y : β), xs[j]? = some x → ys[j]? = some y → R x y) → Paired R xs ys
  | [], [], _, _ => .nil
  | [], _ :: _, h, _ => nomatch h
  | _ :: _, [], h, _ => nomatch h
  | x :: xs, y :: ys, h, k => .cons (k 0 x y rfl rfl) (paired_of (Nat.succ.inj h) fun j a b ha hb => k (j + 1) a b ha hb)
theorem tups_blks {G : Hp} {acc : List V} {ps : List (Int × Str)} (h : TupsJ (rtB ps) G acc) (l : acc.length = (fsts (rk ps)).length) : Blks G acc ps (fsts (rk ps)) := paired_of l fun j x y hx hy => by
  obtain ⟨T, xs, e1, e2, r, e3, e4⟩ := h j (List.getElem?_eq_some_iff.mp hx).1
  rw [hx] at e1
  cases e1
  rw [hy] at e3
  cases e3
  exact ⟨T, rfl, by rw [e2, e4]⟩
section
variable {P : Program} {w : World} {K : Fg} {mg : Str → Option Value} {base : Heap} {fd : Nat → FuncData}
theorem ok_lst {f : Addr} {fd : FuncData} (F : FnP K "listed" "Row.listed" s_lst f fd) (T : Txt K mg) : FnOk P w K mg base CX0 1 f fd ["self"] (spListed K) := by
  have zlist : mg "list" = none := T.bl (by decide +kernel)
  refine F.ok sc_lst (fun vs H Q E h => ?_) (fun cdv A outer s H vs Q E hr h => ?_)
  · obtain ⟨a, ys, rfl, _⟩ := h
    rfl
  · obtain ⟨a, ys, rfl, ⟨dx, t, ha, ht⟩, k⟩ := h
    refine ⟨_, PSs.nox (pss_one (ps_ret (pe_callTy call_list_of (by rfl) zlist (by decide +kernel) (pa_cons (pe_fld (pv 0) rfl) pa_nil)))), ?_⟩
    exact ⟨_, rfl, a, _, dx, _, _, rfl, ha, T.clsR, T.naR, rfl, t, ys, rfl, .inr (SqT.of ht), fun l hl => k l _ hl (same_new hl) upd_same⟩
theorem G_law (D : DefsK K fd) (T : Txt K mg) (TB : LamX.TabB base mg (Tw.codeAt K (ga K "_law_places_right")) (tabAt K (ga K "_law_places_right"))) : FnG P w K mg base CX0 16 (ga K "law") (fd 46) ["_law_script"] (spLaw K) := by
  have zr : mg "range" = none := T.bl (by decide +kernel)
  have zlist : mg "list" = none := T.bl (by decide +kernel)
  have gR : mg "Row" = some (.ref (ga K "Row")) := T.cl (by decide +kernel)
  have g_pen := T.fn (x := "_law_pen") (by decide +kernel)
  have g_draw := T.fn (x := "_law_draw") (by decide +kernel)
  have g_pick := T.fn (x := "_law_pick") (by decide +kernel)
  have g_pairs := T.fn (x := "_law_pairs") (by decide +kernel)
  have g_values := T.fn (x := "_law_values") (by decide +kernel)
  have g_plc := T.fn (x := "_law_places_right") (by decide +kernel)
  have g_mem := T.fn (x := "_law_members_right") (by decide +kernel)
  have g_lblk := T.fn (x := "_law_blocks") (by decide +kernel)
  have g_cmp := T.fn (x := "_law_compared") (by decide +kernel)
  have g_told := T.fn (x := "_law_told") (by decide +kernel)
  have g_by := T.fn (x := "by_rank") (by decide +kernel)
  obtain ⟨d2, I⟩ := itm (P := P) (w := w) (base := base) (mg := mg) D T
  have F_pen : FnP K "_law_pen" "_law_pen" s_pen (ga K "_law_pen") (fd 33) := D 33 _ rfl
  have F_draw : FnP K "_law_draw" "_law_draw" s_draw (ga K "_law_draw") (fd 34) := D 34 _ rfl
  have F_pick : FnP K "_law_pick" "_law_pick" s_pick (ga K "_law_pick") (fd 35) := D 35 _ rfl
  have F_pairs : FnP K "_law_pairs" "_law_pairs" s_pairs (ga K "_law_pairs") (fd 36) := D 36 _ rfl
  have F_values : FnP K "_law_values" "_law_values" s_values (ga K "_law_values") (fd 37) := D 37 _ rfl
  have F_told : FnP K "_law_told" "_law_told" s_told (ga K "_law_told") (fd 38) := D 38 _ rfl
  have F_lnum : FnP K "_law_number" "_law_number" s_lnum (ga K "_law_number") (fd 40) := D 40 _ rfl
  have F_plc : FnP K "_law_places_right" "_law_places_right" s_plc (ga K "_law_places_right") (fd 42) := D 42 _ rfl
  have F_lblk : FnP K "_law_blocks" "_law_blocks" s_lblk (ga K "_law_blocks") (fd 43) := D 43 _ rfl
  have F_mem : FnP K "_law_members_right" "_law_members_right" s_mem (ga K "_law_members_right") (fd 44) := D 44 _ rfl
  have F_cmp : FnP K "_law_compared" "_law_compared" s_cmp (ga K "_law_compared") (fd 45) := D 45 _ rfl
  have F_law : FnP K "law" "law" s_law (ga K "law") (fd 46) := D 46 _ rfl
  have F_rks : FnP K "ranks" "Row.ranks" s_rks (ma K (ga K "Row") "ranks") (fd 48) := D 48 _ rfl
  have F_num : FnP K "number" "Row.number" s_numr (ma K (ga K "Row") "number") (fd 49) := D 49 _ rfl
  have F_blk : FnP K "blocks" "Row.blocks" s_blk (ma K (ga K "Row") "blocks") (fd 50) := D 50 _ rfl
  have F_wit : FnP K "within" "Row.within" s_wit (ma K (ga K "Row") "within") (fd 51) := D 51 _ rfl
  have F_lst : FnP K "listed" "Row.listed" s_lst (ma K (ga K "Row") "listed") (fd 8) := D 8 _ rfl
  have F_by : FnP K "by_rank" "by_rank" s_by (ga K "by_rank") (fd 28) := D 28 _ rfl
  have G_pen : FnOk P w K mg base CX0 1 _ (fd 33) ["_law_script"] (spPenL K) := ok_pen F_pen T
  have G_pairs : FnOk P w K mg base CX0 3 _ (fd 36) ["_law_pen_here", "_law_most"] spPairs := ok_pairs F_pairs F_draw g_draw F_pick g_pick T
  have G_values : FnOk P w K mg base CX0 5 _ (fd 37) ["_law_pen_here", "_law_pairs_here"] (spValues K) := ok_values F_values F_draw g_draw I T
  have G_told : FnOk P w K mg base CX0 1 _ (fd 38) ["_law_listed"] (spTold K) := ok_told F_told T
  have G_plc : FnOk P w K mg base CX0 12 _ (fd 42) ["_law_pen_here", "_law_row", "_law_pairs_here"] (spPlc K) := ok_plc D T TB
  have G_mem : FnOk P w K mg base CX0 8 _ (fd 44) ["_law_pen_here", "_law_row", "_law_pairs_here"] (spMem K) := ok_mem D T
  have G_cmp : FnG P w K mg base CX0 12 _ (fd 45) ["_law_pen_here", "_law_row", "_law_pairs_here"] (spCmp K) := ok_cmp D T
  have G_lblk : FnOk P w K mg base CX0 2 _ (fd 43) ["_law_pairs_here"] (spLBlk K) := ok_lblk F_lblk F_lnum (T.fn (x := "_law_number") (by decide +kernel)) T
  have G_wit : FnOk P w K mg base CX0 9 _ (fd 51) ["self", "other"] (spWithin K) := ok_within F_wit F_blk F_by g_by F_num F_rks T
  have G_blk : FnW P w K mg base 2 _ (fd 50) ["self"] (spBlk K) := ok_blk F_blk F_by g_by T
  have G_lst : FnOk P w K mg base CX0 1 _ (fd 8) ["self"] (spListed K) := ok_lst F_lst T
  have Gr : FnOk P w K mg base (L2.CX P w) 6 (ma K (ga K "Row") "__init__") (fd 6) ["self", "items"] (spRow K) := G_row D T
  obtain ⟨dR, rR, bR0⟩ : ∃ d2, Vals [.ref (nilAt K)] d2 ∧ Binds K (fd 6) ["self", "items"] d2 := by
    obtain ⟨d2, r2, b2⟩ := FunD.binds1 (ps := ["self", "items"]) (show FRow K fd from D 6 _ rfl) 1 0 (fun z => nomatch z) rfl fun _ _ _ _ _ _ _ us its h1 h2 => match us, h1, its, h2 with
      | [_], _, [_], _ => ⟨_, rfl, rfl⟩
    exact ⟨d2, r2, b2⟩
  have b_pen : Binds K (fd 33) ["_law_script"] [] := F_pen.bindsN fun _ _ _ _ _ _ us hl => match us, hl with | [_], _ => rfl
  have b_pairs : Binds K (fd 36) ["_law_pen_here", "_law_most"] [] := F_pairs.bindsN fun _ _ _ _ _ _ us hl => match us, hl with | [_, _], _ => rfl
  have b_values : Binds K (fd 37) ["_law_pen_here", "_law_pairs_here"] [] := F_values.bindsN fun _ _ _ _ _ _ us hl => match us, hl with | [_, _], _ => rfl
  have b_told : Binds K (fd 38) ["_law_listed"] [] := F_told.bindsN fun _ _ _ _ _ _ us hl => match us, hl with | [_], _ => rfl
  have b_plc : Binds K (fd 42) ["_law_pen_here", "_law_row", "_law_pairs_here"] [] := F_plc.bindsN fun _ _ _ _ _ _ us hl => match us, hl with | [_, _, _], _ => rfl
  have b_mem : Binds K (fd 44) ["_law_pen_here", "_law_row", "_law_pairs_here"] [] := F_mem.bindsN fun _ _ _ _ _ _ us hl => match us, hl with | [_, _, _], _ => rfl
  have b_cmp : Binds K (fd 45) ["_law_pen_here", "_law_row", "_law_pairs_here"] [] := F_cmp.bindsN fun _ _ _ _ _ _ us hl => match us, hl with | [_, _, _], _ => rfl
  have b_lblk : Binds K (fd 43) ["_law_pairs_here"] [] := F_lblk.bindsN fun _ _ _ _ _ _ us hl => match us, hl with | [_], _ => rfl
  have b_wit : Binds K (fd 51) ["self", "other"] [] := F_wit.bindsN fun _ _ _ _ _ _ us hl => match us, hl with | [_, _], _ => rfl
  have b_blk : Binds K (fd 50) ["self"] [] := F_blk.bindsN fun _ _ _ _ _ _ us hl => match us, hl with | [_], _ => rfl
  have b_lst : Binds K (fd 8) ["self"] [] := F_lst.bindsN fun _ _ _ _ _ _ us hl => match us, hl with | [_], _ => rfl
  have mW := T.mtR2 (m := "within") (by decide +kernel)
  have mB := T.mtR2 (m := "blocks") (by decide +kernel)
  have mL := T.mtR (m := "listed") (by decide +kernel)
  refine F_law.okG sc_law (fun vs H Q E h => ?_) (fun cdv A outer s H vs Q E hr hg h => ?_)
  · obtain ⟨a, ns, rfl, _⟩ := h
    rfl
  · obtain ⟨a0, ns, rfl, hS, hn, hT, k⟩ := h
    refine ⟨_, PSs.nox (pss_cons (ps_set (i := 1) sc_law.nd rfl (Or.inl rfl) (pe_call (E := E0) G_pen (hr.mono (by decide)) rfl g_pen F_pen.kp b_pen .nil pass0 (pa_cons (pv 0) pa_nil)))
    (pss_cons (ps_for PassesOwn.never rfl (pi_range1 rfl zr (pa_cons pe_int pa_nil)) (pg_name (i := 2) sc_law.nd rfl (Or.inl rfl))
    (pss_cons (ps_set (i := 3) sc_law.nd rfl (Or.inl rfl) (pe_call (E := E0) G_pairs (hr.mono (by decide)) rfl g_pairs F_pairs.kp b_pairs .nil pass0 (pa_cons (pv 1) (pa_cons pe_int pa_nil))))
    (pss_cons (ps_set (i := 4) sc_law.nd rfl (Or.inl rfl) (pe_make (E := E0) T.mkR Gr (hr.mono (by decide)) rfl gR (bRow D) .nil passL (pa_cons (pe_call (E := E0) G_values (hr.mono (by decide)) rfl g_values F_values.kp b_values .nil pass0 (pa_cons (pv 1) (pa_cons (pv 3) pa_nil))) pa_nil)))
    (pss_cons (ps_if (PW.pt (pw_or (pt_not (pt_val (pe_call (E := E0) G_plc (hr.mono (by decide)) rfl g_plc F_plc.kp b_plc .nil pass0 (pa_cons (pv 1) (pa_cons (pv 4) (pa_cons (pv 3) pa_nil)))))) (pw_or1 (pt_not (pt_val (pe_call (E := E0) G_mem (hr.mono (by decide)) rfl g_mem F_mem.kp b_mem .nil pass0 (pa_cons (pv 1) (pa_cons (pv 4) (pa_cons (pv 3) pa_nil))))))))) (pss_one (ps_ret pe_bl)) pss_nil)
    (pss_cons (ps_if (PW.pt (pw_or (pt_cmpR (op_neD hr.units) (pe_listW (pv 4) T.clsR mB G_blk (hr.mono (by decide)) rfl b_blk .nil rfl zlist (by decide +kernel)) (pe_call (E := E0) G_lblk (hr.mono (by decide)) rfl g_lblk F_lblk.kp b_lblk .nil pass0 (pa_cons (pv 3) pa_nil)) (nomark _)) (pw_or1 (pt_not (pt_val (pe_callG (E := E0) G_cmp (hr.mono (by decide)) hg rfl g_cmp F_cmp.kp b_cmp .nil pass0 (pa_cons (pv 1) (pa_cons (pv 4) (pa_cons (pv 3) pa_nil))))))))) (pss_one (ps_ret pe_bl)) pss_nil)
    (pss_one (ps_if (pt_cmpR (op_neD hr.units) (pe_call (E := E0) G_told (hr.mono (by decide)) rfl g_told F_told.kp b_told .nil pass0 (pa_cons (pe_meth0 (E := E0) (pv 4) T.clsR mL G_lst (hr.mono (by decide)) b_lst .nil pass0) pa_nil)) (pv 3) (nomark _)) (pss_one (ps_ret pe_bl)) pss_nil)))))))
    (pss_one (ps_ret (pe_and (pe_cmpR op_isBl (pe_meth (E := E0) (pe_make0 (E := E0) T.mkR Gr (hr.mono (by decide)) rfl gR bR0 rR passL) T.clsR mW G_wit (hr.mono (by decide)) b_wit .nil pass0 (pa_cons (pe_make0 (E := E0) T.mkR Gr (hr.mono (by decide)) rfl gR bR0 rR passL) pa_nil)) pe_bl (nomark _)) (pe_one (pe_cmpR (op_eqD hr.units) (pe_listW (pe_make0 (E := E0) T.mkR Gr (hr.mono (by decide)) rfl gR bR0 rR passL) T.clsR mB G_blk (hr.mono (by decide)) rfl b_blk .nil rfl zlist (by decide +kernel)) (pe_lstN pa_nil) (nomark _)))))))), ?_⟩
    refine ⟨_, rfl, a0, ns, rfl, hS, hn, fun p l H1 f1 P1 s1 => ?_⟩
    refine ⟨6, rfl, by decide, by decide, for_range (n := 6) (fun i σ H' => ∃ v2 v3 v4 : Option V, σ = [some (.ref a0), some (.ref p), v2, v3, v4] ∧ PenL H' p l (500 * i) ∧ LamX.Tabs (Tb K) H') ⟨none, none, none, rfl, P1, hT.ext s1⟩ ?_ ?_⟩
    · rintro i σ G0 hi ⟨v2, v3, v4, rfl, P0, T0⟩
      dsimp only [gName]
      refine ⟨_, rfl, p, l, 30, _, rfl, by decide, P0, by omega, fun f G1 ts ps P1 B1 f1 f2 gf Pr lp up gd => ?_⟩
      refine ⟨_, rfl, _, rfl, p, l, f, ts, ps, _, rfl, P1, by omega, gf, f2, Pr, by omega, gd, fun g G2 xs P2 B2 f3 ngp g2 vv => ?_⟩
      refine fun x dx h1 h2 h3 => row_to h1 h2 h3 (vals_src (.inl (SqL.of g2)) vv (by omega)) up (by omega) fun G3 ys s3 ra its => ⟨rfl, ?_⟩
      have V3 : Hv K G3 p l (500 * i + 330) x f ys ts ps := Hv.mono ⟨P2.same s3, ra, its, s3 _ _ (B2 _ _ gf f2), (Pr.keep fun t xs z => B2 _ _ z (pen_ne P1 z (fun _ z => nomatch z))).keep fun t xs z => s3 _ _ z, f2, (tabs_pen (tabs_pen T0 B1 P0) B2 P1).ext s3⟩ (by omega)
      clear P2 B2 P1 B1 T0 P0 h1 h2 h3 ra its
      refine ⟨_, rfl, _, rfl, _, rfl, p, l, x, f, _, ys, ts, ps, rfl, V3, by omega, lp, gd, fun G4 V4 => ⟨_, rfl, iteF ?_⟩⟩
      refine ⟨_, rfl, _, rfl, _, rfl, p, l, x, f, _, ys, ts, ps, rfl, V4, by omega, lp, gd, fun G5 V5 => ⟨_, rfl, iteF ?_⟩⟩
      obtain ⟨dx5, t5, ha5, _⟩ := id V5.ra
      have ln := its_len V5.its
      refine ⟨_, rfl, x, dx5, _, _, _, rfl, ha5, rfl, jt_go, jt_st, ⟨x, ys, ps, rfl, by omega, rfl, rfl⟩, fun S hS => listW_jt (n := (fsts (rk ps)).length) (Pre := fun H => RowAt K H x ys ∧ Its K H ys ps) (Rt := rtB ps) hS (by have := fsts_lenP ps; omega) ⟨V5.ra.same (same_new hS), V5.its.same (same_new hS)⟩ (fun G6 acc s6 gS la tj => ?_)⟩
      have V6 := V5.same s6
      have B6 := tups_blks tj la
      refine ⟨_, rfl, f, ts, ps, rfl, SqL.of V6.hf, V6.prs, by omega, up, fun l2 G7 xs2 f7 s7 g7 B7 => ?_⟩
      have V7 := V6.same s7
      refine ⟨_, _, .lst (SqL.of (s7 _ _ gS)) (dpBlks (blks_keep (fun t xs z => s7 _ _ z) B6)), .lst (SqL.of g7) (dpBlks B7), shapedB _ _, shapedB _ _, ?_⟩
      rw [eqvB]
      refine ⟨_, rfl, iteF ?_⟩
      refine ⟨_, rfl, _, rfl, _, rfl, p, l, x, f, _, ys, ts, ps, rfl, V7, by omega, lp, up, gd, fun G8 V8 => ⟨_, rfl, iteF ?_⟩⟩
      obtain ⟨dx8, t8, ha8, _⟩ := id V8.ra
      refine ⟨_, rfl, x, dx8, _, rfl, ha8, rfl, x, ys, rfl, V8.ra, fun l3 G9 f9 s9 g9 => ?_⟩
      have V9 := V8.same s9
      refine ⟨l3, ys, ps, rfl, g9, V9.its, by omega, fun g10 G10 us f10 s10 gu pu => ?_⟩
      have V10 := V9.same s10
      exact ⟨_, rfl, ne_prs gd gu pu V10.hf V10.prs ⟨_, rfl, iteF ⟨_, _, _, rfl, V10.P.mono (by omega), V10.t⟩⟩⟩
    · rintro σ G ⟨v2, v3, v4, rfl, P0, T0⟩
      have src0 : ∀ H, Src K H (nilAt K) [] (([] : List (Int × Str)).map some) := fun H => ⟨.inr (.inl (T.nil H)), by decide, rfl, fun i x h => nomatch h⟩
      have up0 : Up [] ([] : List (Int × Str)).length := fun m a b h => absurd h (Nat.not_lt_zero m)
      refine fun a1 d1 h1 h2 h3 => row_to h1 h2 h3 (src0 _) up0 (by decide) fun G1 y1 s1 r1 i1 => ⟨rfl, ?_⟩
      obtain ⟨e1, t1, h1', _⟩ := id r1
      refine ⟨a1, e1, _, rfl, h1', rfl, fun a2 d2 h4 h5 h6 => row_to h4 h5 h6 (src0 _) up0 (by decide) fun G2 y2 s2 r2 i2 => ⟨rfl, ?_⟩⟩
      have l1 := its_len i1
      have l2 := its_len i2
      refine ⟨a1, a2, y1, y2, [], [], rfl, r1.same s2, i1.same s2, by rw [l1]; decide, .nil, r2, i2, by rw [l2]; decide, .nil, fun G3 s3 => ?_⟩
      refine ⟨_, _, rfl, rfl, _, rfl, ?_⟩
      refine iteTe (decide_eq_true (by rfl)) ?_
      refine fun a3 d3 h7 h8 h9 => row_to h7 h8 h9 (src0 _) up0 (by decide) fun G4 y4 s4 r4 i4 => ⟨rfl, ?_⟩
      obtain ⟨e4, t4, h4', _⟩ := id r4
      refine ⟨a3, e4, _, _, _, rfl, h4', rfl, jt_go, jt_st, ⟨a3, y4, [], rfl, by decide, rfl, rfl⟩, fun S hS => listW_jt (n := (fsts (rk [])).length) (Pre := fun H => RowAt K H a3 y4 ∧ Its K H y4 []) (Rt := rtB []) hS (by decide) ⟨r4.same (same_new hS), i4.same (same_new hS)⟩ (fun G6 acc s6 gS la tj => ?_)⟩
      have ea : acc = [] := List.length_eq_zero_iff.mp la
      subst ea
      refine ⟨sz1000 (by show 0 ≤ 1000; decide), fun e9 G27 f27 m27 s27 g27 => ?_⟩
      refine ⟨.list [], .list [], .lst (SqL.of (s27 _ _ gS)) .nil, .lst (SqL.of g27) .nil, shapedBools [], shapedBools [], ?_⟩
      rw [show PyData.eqv (.list []) (.list []) = true from eqvBools []]
      exact k G27
end
end K04
/-! Tw: the law's end with tables of code objects, where no repr runs around. -/
namespace Tw
open PySem PySem.Spec PyProof.Rows L2 LamX
theorem law_tabG {P : Program} {w : World} {K : PySem.W.Frag} {mg mb : Str → Option Value} {CX : CXT} {k : Nat} {fa a : Addr} {cs : List (Addr × Addr)} {fd : FuncData} {x : Str} {sp : Sp} {s0 : Shared} {vs : List Value} {ns : List Int}
    (KX : K.In s0.heap) (hns : s0.heap.Ns mainGlobals mg) (hb : s0.heap.Ns builtinsNs mb) (hbb : ∀ x : Str, x ≠ "__name__" → mb x = bootBuiltins x) (hlim : s0.heap.NoLimit) (hg : s0.gens = #[])
    (hT : ∀ p ∈ cs, s0.heap.get? p.2 = some { cls := .none, data := .fields #[] }) (nT : ∀ p ∈ cs, K.lookup p.2 = none) (C : ∀ p ∈ cs, PySem.W.CodeHd s0.heap p.1 p.2)
    (hbm : ∃ (bm : Addr) (ob : Obj), mg "__builtins__" = some (.ref bm) ∧ bm ≠ builtinsNs ∧ s0.heap.get? bm = some ob ∧ ob.cls = .type "module" ∧ ob.dict = some builtinsNs ∧ ob.data = .plain)
    (ha : s0.heap.get? a = some { cls := .type "list", data := .seq vs.toArray }) (hi : IntsAre vs ns) (hl : ns.length ≤ sizeLine) (hr : Room k callerA)
    (F : ∀ base : Heap, K.In base → base.Ns mainGlobals mg → (∀ p ∈ cs, TabB base mg p.1 p.2) → FnG P w K mg base CX k fa fd [x] sp) (hbind : ∀ (s : Shared) (u : Value), BindsTo s fd ⟨[u], []⟩ [(x, u)])
    (hsp : ∀ H : Hp, (∀ p ∈ cs, H p.2 = some (.tbl #[])) → SqL K H a (ns.map V.int) → sp [.ref a] H (fun v _ => v = .bl true) fun _ _ _ => False)
    (hCX : ∀ H e s', CX [] H s0 (fun _ _ _ => False) e s' → False) :
    codeAny (model P w) callerA (.call (.ref fa) ⟨[.ref a], []⟩) (fun r s' => r = .ok (.ret (.bool true)) ∧ OldK s0.heap s'.heap ∧ s'.os = s0.os ∧ AllBare s'.gens) s0 := by
  have rv := vals_ints hi
  have lenVs := hi.length
  have atTab : ∀ b : Addr, b ∈ cs.map (·.2) → s0.heap.get? b = some { cls := .none, data := .fields #[] } := fun b hb => by
    obtain ⟨p, hp, e⟩ := List.mem_map.mp hb
    rw [← e]
    exact hT p hp
  have notTab : a ∉ cs.map (·.2) := fun z => by
    have q := atTab a z
    rw [ha] at q
    have z' : Data.seq vs.toArray _ = Data.fields #[] := congrArg Obj.data (Option.some.inj q)
    cases z'
  have inTab : ∀ p ∈ cs, p.2 ∈ cs.map (·.2) := fun p hp => List.mem_map.mpr ⟨p, hp, rfl⟩
  -- from an abstract heap in which nothing but the script and the tables may be tracked
  have body : ∀ H : Hp, (∀ p ∈ cs, H p.2 = some (.tbl #[])) → (∀ b, H b = none ∨ b ∈ cs.map (·.2) ∨ ∃ o xs, H b = some (.frz o (.lst xs))) → SqL K H a (ns.map V.int) → HOk P w H s0.heap → (∀ b, H b ≠ none → b = a ∨ b ∈ cs.map (·.2)) → (H a ≠ none → K.lookup a = none) →
      codeAny (model P w) callerA (.call (.ref fa) ⟨[.ref a], []⟩) (fun r s' => r = .ok (.ret (.bool true)) ∧ OldK s0.heap s'.heap ∧ s'.os = s0.os ∧ AllBare s'.gens) s0 := by
    intro H hH hO hS hok hA hK
    have getHid : ∀ {b : Addr} {o : Obj}, s0.heap.get? b = some o → H b = none → (hidT s0.heap H).get? b = some o := fun e n => hidT_get e n
    have noDat : ∀ {b : Addr} {o : Obj}, s0.heap.get? b = some o → (∀ vs n, o.data ≠ .seq vs n) → o.data ≠ .fields #[] → H b = none := fun {b o} e h1 h2 => by
      cases q : H b with
      | none => rfl
      | some u =>
        rcases hA b (by rw [q]; simp) with e' | e'
        · rw [e', ha] at e
          cases e
          exact (h1 _ _ rfl).elim
        · rw [atTab b e'] at e
          cases e
          exact (h2 rfl).elim
    have noDic : ∀ {b : Addr} {o : Obj} {es : Array DictEntry} {ep : Nat}, s0.heap.get? b = some o → o.data = .dict es ep → H b = none := fun {b o es ep} e d => by
      refine noDat e (fun vs n z => ?_) fun z => ?_
      · rw [d] at z
        cases z
      · rw [d] at z
        cases z
    have nsHid : ∀ {b : Addr} {m : Str → Option Value}, s0.heap.Ns b m → (hidT s0.heap H).Ns b m := fun {b m} ⟨o, es, ep, e, d, r⟩ => ⟨o, es, ep, getHid e (noDic e d), d, r⟩
    have kHid : K.In (hidT s0.heap H) := fun b o e => getHid (KX b o e) (by
      cases q : H b with
      | none => rfl
      | some u =>
        rcases hA b (by rw [q]; simp) with e' | e'
        · rw [e'] at e q
          rw [hK (by rw [q]; simp)] at e
          cases e
        · obtain ⟨p, hp, ep⟩ := List.mem_map.mp e'
          rw [← ep, nT p hp] at e
          cases e)
    have hMod : L2.Mod K mg (hidT s0.heap H) := ⟨kHid, nsHid hns, ⟨mb, nsHid hb, hbb⟩, let ⟨mc, h1, h2⟩ := hlim; ⟨mc, nsHid h1, h2⟩⟩
    have TB : ∀ p ∈ cs, TabB (hidT s0.heap H) mg p.1 p.2 := fun p hp => by
      have hTp := hT p hp
      refine ⟨?_, ?_, fun z => ?_⟩
      · obtain ⟨o, us, file, tf, flags, tg, inF, text, tt, e1, r1, r2, r3, r4, r5, r6, r7, r8, hne⟩ := C p hp
        refine ⟨o, us, file, tf, flags, tg, inF, text, tt, getHid e1 (noDat e1 (fun vs n z => ?_) fun z => ?_), r1, r2, r3, r4, r5, r6, r7, r8, hne⟩
        · rw [r2] at z
          cases z
        · rw [r2] at z
          cases z
          simp at r3
      · obtain ⟨bm, ob, b1, b2, b3, b4, b5, b6⟩ := hbm
        have nG : bm ≠ mainGlobals := fun q => by
          obtain ⟨o, es, ep, e, hd, _⟩ := hns
          rw [q, e] at b3
          cases b3
          rw [hd] at b6
          cases b6
        have nP : bm ≠ p.2 := fun q => by
          rw [q, hTp] at b3
          cases b3
          cases b6
        refine ⟨bm, ob, b1, b2, nG, nP, getHid b3 (noDat b3 (fun vs n z => ?_) fun z => ?_), b4, b5, b6⟩
        · rw [b6] at z
          cases z
        · rw [b6] at z
          cases z
      · obtain ⟨o, es, ep, e, hd, _⟩ := hns
        rw [z, hTp] at e
        cases e
        cases hd
    have e0 : Env0 P w K mg (hidT s0.heap H) callerA [] s0 H := ⟨rfl, hMod, fun b o e => of_hidT e, Nat.le_of_eq (hidT_size _ _), trivial, fun b hb => absurd (show b ∈ ([] : List Addr) from hb) (by simp), hok, .of_eq hg⟩
    refine codeAny_mono ((F _ kHid (nsHid hns) TB).run callerA [] s0 H ⟨[.ref a], []⟩ [.ref a] [.ref a] _ _ hr rfl e0 (hbind s0 (.ref a)) (.cons rfl .nil) (hsp H hH hS)) fun r s' h => ?_
    cases r with
    | error e => exact (hCX H e s' h).elim
    | ok fl =>
      cases fl with
      | next => exact False.elim h
      | brk => exact False.elim h
      | cont => exact False.elim h
      | ret u =>
        obtain ⟨v, H', os, bare, un, hok', r', q⟩ := h
        have q' : v = .bl true := q
        subst q'
        obtain rfl : u = Value.bool true := r'
        have keepB : ∀ b o, b ∉ cs.map (·.2) → s0.heap.get? b = some o → s'.heap.get? b = some o := fun b o nb e => by
          cases q : H b with
          | none => exact un.keep b o e q (by intro z; exact absurd (show b ∈ ([] : List Addr) from z) (by simp)) (by simp)
          | some u =>
            rcases hO b with z | z | ⟨ob, xs, z⟩
            · rw [q] at z; cases z
            · exact absurd z nb
            · have z2 := un.frzs b ob _ z
              obtain ⟨e1, _⟩ := hok b _ z
              obtain ⟨e2, _⟩ := hok' b _ z2
              rw [e] at e1; cases e1
              exact e2
        have more : ∀ p ∈ cs, ∃ mo : Array Value, s'.heap.get? p.2 = some { cls := .none, data := .fields mo } := fun p hp => by
          obtain ⟨mo, z⟩ := un.tbls p.2 #[] (hH p hp)
          exact ⟨_, hok' p.2 _ z⟩
        refine ⟨rfl, ⟨fun b o e => ?_, fun b o e => ?_⟩, os, bare⟩
        · by_cases hb : b ∈ cs.map (·.2)
          · obtain ⟨p, hp, ep⟩ := List.mem_map.mp hb
            obtain ⟨mo, hm⟩ := more p hp
            rw [← ep] at e ⊢
            rw [hT p hp] at e
            cases e
            exact .inr (.inl ⟨((C p hp).tab (hT p hp)).isCodeTable, rfl, #[], mo, rfl, by rw [Array.empty_append]; exact hm⟩)
          · exact .inl (keepB b o hb e)
        · by_cases hb : b ∈ cs.map (·.2)
          · obtain ⟨p, hp, ep⟩ := List.mem_map.mp hb
            obtain ⟨mo, hm⟩ := more p hp
            rw [← ep]
            exact ⟨_, hm⟩
          · exact ⟨o, keepB b o hb e⟩
  cases hk : K.lookup a with
  | some o =>
    have e := KX a o hk
    rw [ha] at e
    cases e
    refine body (fun b => if b ∈ cs.map (·.2) then some (.tbl #[]) else none) (fun p hp => if_pos (inTab p hp)) (fun b => ?_) (.inr ⟨_, vs.toArray, _, hk, rfl, rfl, rfl, by rw [List.size_toArray, lenVs]; exact hl, by simpa using rv⟩) (fun b u z => ?_) (fun b z => ?_) fun z => absurd (show (if a ∈ cs.map (·.2) then some (HO.tbl #[]) else none) = none from if_neg notTab) z
    · by_cases hb : b ∈ cs.map (·.2)
      · exact .inr (.inl hb)
      · exact .inl (if_neg hb)
    · by_cases hb : b ∈ cs.map (·.2)
      · have z' := (if_pos hb).symm.trans z
        cases z'
        exact atTab b hb
      · have z' := (if_neg hb).symm.trans z
        cases z'
    · by_cases hb : b ∈ cs.map (·.2)
      · exact .inr hb
      · exact absurd (if_neg hb) z
  | none =>
    refine body (fun b => if b = a then some (.frz { cls := .type "list", data := .seq vs.toArray } (.lst (ns.map V.int))) else if b ∈ cs.map (·.2) then some (.tbl #[]) else none) (fun p hp => (if_neg (show ¬ p.2 = a from fun z => notTab (by rw [← z]; exact inTab p hp))).trans (if_pos (inTab p hp))) (fun b => ?_)
      (.inl (.inr ⟨{ cls := .type "list", data := .seq vs.toArray }, if_pos rfl⟩)) (fun b u z => ?_) (fun b z => ?_) fun _ => hk
    · by_cases hb : b = a
      · exact .inr (.inr ⟨_, _, if_pos hb⟩)
      · by_cases hb2 : b ∈ cs.map (·.2)
        · exact .inr (.inl hb2)
        · exact .inl ((if_neg hb).trans (if_neg hb2))
    · by_cases hb : b = a
      · have z' := (if_pos hb).symm.trans z
        cases z'
        rw [hb]
        exact ⟨ha, by rw [List.length_map]; exact hl, vs, _, rv, ha⟩
      · have z1 := (if_neg hb).symm.trans z
        by_cases hb2 : b ∈ cs.map (·.2)
        · have z' := (if_pos hb2).symm.trans z1
          cases z'
          exact atTab b hb2
        · have z' := (if_neg hb2).symm.trans z1
          cases z'
    · by_cases hb : b = a
      · exact .inl hb
      · by_cases hb2 : b ∈ cs.map (·.2)
        · exact .inr hb2
        · exact absurd ((if_neg hb).trans (if_neg hb2)) z
/-- what is known of the law's promise at the head's heap -/
def LawAtG (l : PySem.W.OpenLaw) (w : World) (K : PySem.W.Frag) (CX : CXT) (k n : Nat) (x : Str) (mg : Str → Option Value) (fa : Addr) (h : Heap) : Prop :=
  ∃ (fd : FuncData) (cs : List (Addr × Addr)) (sp : Sp), (∀ p ∈ cs, h.get? p.2 = some { cls := .none, data := .fields #[] }) ∧ (∀ p ∈ cs, K.lookup p.2 = none) ∧ (∀ p ∈ cs, PySem.W.CodeHd h p.1 p.2) ∧ (∀ (s : Shared) (u : Value), BindsTo s fd ⟨[u], []⟩ [(x, u)]) ∧
    (∀ (H : Hp) (a : Addr) (ns : List Int), ns.length ≤ n → (∀ z ∈ ns, Builtin.Int.intBits z ≤ 1048576) → (∀ p ∈ cs, H p.2 = some (.tbl #[])) → SqL K H a (ns.map V.int) → sp [.ref a] H (fun v _ => v = .bl true) fun _ _ _ => False) ∧
    ∀ base : Heap, K.In base → base.Ns mainGlobals mg → (∀ p ∈ cs, TabB base mg p.1 p.2) → FnG l.prog w K mg base CX k fa fd [x] sp
theorem walk_ofTsG {l : PySem.W.OpenLaw} {n k : Nat} {q : Program} {loose : List Str} {XP : (Str → Option Value) → Heap → Prop} {YP : World → Heap → Prop} {d : DefRec} {CX : World → CXT} {x : Str}
    (hn : l.most = some n) (hn2 : n ≤ sizeLine) (hdf : d.params.defaults = []) (hr : Room k callerA)
    (F : ∀ (w : World) (mg : Str → Option Value) (fa : Addr) (h : Heap), YP w h → h.Ns mainGlobals mg → mg d.name = some (.ref fa) → ∃ K : PySem.W.Frag, K.In h ∧ LawAtG l w K (CX w) k n x mg fa h)
    (hCX : ∀ (w : World) (H : Hp) (s : Shared) (e : Value) (s' : Shared), CX w [] H s (fun _ _ _ => False) e s' → False) :
    PySem.W.WalkO q loose XP YP l.row.toRowW d [] (fun f vs => PySem.call f vs) := by
  refine Att.attach_callB hn hdf fun w s₀ s1 mg mb fa o pm cd doc a vs ns G Y ho hd hcd hmg hobj hints hlen hbits hg => ?_
  obtain ⟨K, KX, fd, cs, sp, hT, nT, C, hb, hsp, hF⟩ := F w mg fa _ Y G.T.g hmg
  exact law_tabG KX G.T.g G.T.b G.T.builtins G.T.nolimit hg hT nT C G.T.bmain hobj hints (Nat.le_trans hlen hn2) hr hF hb (fun H hH hS => hsp H a ns hlen hbits hH hS) fun H e s' => hCX w H s1 e s'
end Tw
namespace K04
open PySem PySem.Spec PyProof.Rows L2 He Tw
abbrev R : PySem.W.OpenRow := PySem.W.OpenLaw.row PySem.Challenge.rw_twoheads_k04_rows_read
def ls : List (Fg → Addr) := [fun K => ga K "_law_places_right"]
abbrev hk : PySem.W.Hook := hookZ 6 fs fn ls
def ob (s : PySem.W.SharedT) : AlL := obsZG 6 fs fn ls (HandSHeadRun.getT s)
theorem ob_eq (s : PySem.W.SharedT) : ob s = hk.obs s.abs := obsZG_eq (HandSHeadRun.getT_eq s)
def others : List Str := clss ++ fnames.dropLast ++ (["BEYOND", "LONGEST", "LETTERS", "_wall"] : List Str)
theorem run (w : World) : HandSHeadRun.RunEq R (PySem.W.view R.prog [42]) hk ob 9000 others w := by
  intro os
  kernel_rfl
theorem facts {P : Program} {w : World} {K : Fg} {h : Heap} {mg : Str → Option Value} (X : K.In h) (G : h.Ns mainGlobals mg) (c : SaysZ fs fn K) :
    ∃ (u : FuncData), Txt K mg ∧ (∀ (s : Shared) (v : Value), BindsTo s u ⟨[v], []⟩ [("_law_script", v)]) ∧ ∀ base : Heap, K.In base → base.Ns mainGlobals mg → (∀ p ∈ csZ ls K, LamX.TabB base mg p.1 p.2) → FnG P w K mg base CX0 16 (ga K "law") u ["_law_script"] (spLaw K) := by
  obtain ⟨fd, D⟩ := c.defs (d0 := fn.headD (dF "law" 42)) rfl
  have T : Txt K mg := ⟨c, fun x hx => He.glo_ok X G hx, fun x hx => He.free_ok X G hx, fun x i hx => He.int_ok X G hx, fun x z hx => He.str_ok X G hx⟩
  have F : FnP K "law" "law" s_law (ga K "law") (fd 46) := D 46 _ rfl
  have b : ∀ (s : Shared) (us : List Value), us.length = (["_law_script"] : List Str).length → BindsTo s (fd 46) ⟨us, []⟩ ((["_law_script"] : List Str).zip us) := FunD.bindsA (ps := ["_law_script"]) F fun _ _ _ _ _ _ us hl => match us, hl with | [_], _ => rfl
  exact ⟨fd 46, T, fun s v => b s [v] rfl, fun base _ _ tb => G_law D T (tb _ (List.mem_cons.mpr (.inl rfl))) ⟩
end K04
open PySem PySem.W PySem.Calls PyProof.Rows
set_option maxHeartbeats 0 in
theorem PySem.Challenge.cw_twoheads_k04_rows_read_holds : PySem.Challenge.rw_twoheads_k04_rows_read.Holds := by
  w_on; o_law
  refine HandSHeadRun.head_any (r := OpenLaw.row PySem.Challenge.rw_twoheads_k04_rows_read) (q := view (OpenLaw.row PySem.Challenge.rw_twoheads_k04_rows_read).prog [42]) (H := K04.hk) (ob := K04.ob) (M := 9000) (loose := K04.others) (d := HandSHeadRun.topDef (OpenLaw.row PySem.Challenge.rw_twoheads_k04_rows_read).prog 42) (kwd := []) K04.ob_eq
    (by kernel_rfl) (fun s => by kernel_rfl) K04.run (by kernel_rfl) (by kernel_rfl) (by kernel_rfl) (by rfl) (by first | assumption | decide +kernel) (by decide +kernel) ⟨rfl, rfl, rfl, rfl, rfl, by decide +kernel⟩ ?hw ?hc
  case hw => w_witness2
  case hc =>
    refine Tw.walk_ofTsG (l := PySem.Challenge.rw_twoheads_k04_rows_read) (n := 63) (k := 16) (x := "_law_script") (CX := fun _ => L2.CX0) rfl (by decide) (by kernel_rfl) ⟨rfl, by decide, by decide⟩ ?F (fun _ _ _ _ _ z => z)
    intro w mg fa h Y G hmg0
    obtain ⟨K, KX, c, tabs⟩ := Y
    have hmg : mg ("law" : PySem.Str) = some (.ref fa) := by
      have e : (HandSHeadRun.topDef (OpenLaw.row PySem.Challenge.rw_twoheads_k04_rows_read).prog 42).name = ("law" : PySem.Str) := by kernel_rfl
      rw [← e]
      exact hmg0
    obtain ⟨fd, T, hb, hF⟩ := K04.facts (P := (PySem.Challenge.rw_twoheads_k04_rows_read).prog) (w := w) KX G c
    have T0 : mg ("law" : PySem.Str) = some (.ref (He.ga K "law")) := T.fn (x := "law") (by decide +kernel)
    have ef : fa = He.ga K "law" := by
      rw [hmg] at T0
      exact Value.ref.inj (Option.some.inj T0)
    subst ef
    have tb : ∀ f ∈ K04.ls, Tw.tabB K (f K) = true := fun f hf => by
      simp only [K04.ls, List.mem_cons, List.not_mem_nil, or_false] at hf
      rcases hf with rfl
      · exact T.tab1
    refine ⟨K, KX, fd, Tw.csZ K04.ls K, K04.spLaw K, fun p hp => ?_, fun p hp => ?_, fun p hp => ?_, hb, fun H a ns hl _ hH hS => ⟨a, ns, rfl, hS, hl, fun q hq => ?_, fun _ => rfl⟩, hF⟩
    · obtain ⟨f, hf, rfl⟩ := List.mem_map.mp hp
      exact Tw.isTab_ok (tabs f hf)
    · obtain ⟨f, hf, rfl⟩ := List.mem_map.mp hp
      exact Option.isNone_iff_eq_none.mp (Bool.and_eq_true_iff.mp (tb f hf)).2
    · obtain ⟨f, hf, rfl⟩ := List.mem_map.mp hp
      exact PySem.W.codeHd_of_K KX (Bool.and_eq_true_iff.mp (tb f hf)).1
    · simp only [K04.Tb, List.mem_cons, List.not_mem_nil, or_false] at hq
      rcases hq with rfl
      · exact LamX.TabS.nil (hH _ (List.mem_cons.mpr (.inl rfl)))
#print axioms PySem.Challenge.cw_twoheads_k04_rows_read_holds
