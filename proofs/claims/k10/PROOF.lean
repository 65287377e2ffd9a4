import PyProof.Rows.All
import Wide.All
import OpenK.AllK
import Wide.FinOn
import HandS.Defaults
import HandS.Head0
import HandS.Head1
import HandS.Head2
import HandS.HeadEnd
import HandS.HeadHook1
import HandS.HeadHook2
import PyProof.StrLawsRepr
import PyProof.EqAt
import PyProof.EqKinds
import PyProof.TupleCall
import PyProof.ReprRoads
import KE.KExcIs
import HandS.ForMost
import HandS.Exc
import HandS.ExcInit
import HandS.ExcValue
import HandS.IsInst
import HandS.WordsExc
import HandS.SlotsOwn
import HandS.MakeKw
import HandS.MakeKwOnly
import KE.KCallOwn
import KE.KFmtOwn
import PyProof.Rows.StrMul
import KE.GoesEnum
import HandS.IterVal
import KE.KOwnIter
import HandS.RaiseMore
import HandS.More
import HandS.HeadHook3
import HandS.FStr
import HandS.ClsMeth
import HandS.Codes
import Wide.Once
import KE.KOpsOwn
import HandS.Star
import HandS.Property
import HandS.ExcOwn
import PyProof.ListMulRoad
import HandS.EndTab
import HandS.HeadWalk
import HandS.HeadNt
import KE.SortKeyHeap
import HandS.SortKw
import HandS.SetBool
import HandS.Strs
import HandS.SetKeys
import HandS.TupAny
import PyProof.Rows.SortShellAny
import OpenK.KMeth
import HandS.Style
import HandS.Text
import PyProof.CodeObjX
import HandS.Comp
import HandS.Sort
import PyProof.ListRange
import KE.KWithOwn
import HandS.HotCalls
import HandS.Finally
import HandS.RaiseOp
import HandS.ExcBuiltin
import HandS.TryOnly
import HandS.SetFor
import KE.DataCmp
import HandS.GenList
import HandS.Words
import PySem.Challenge.RW_twoheads_k10_whole_histories_of_rows
set_option Elab.async false
set_option linter.all false
set_option maxRecDepth 100000
set_option maxHeartbeats 8000000
/-! Tw, part 1: calls where no repr runs around; errors as values; errors kept behind their except suite. -/
namespace Tw
open PySem PySem.Spec PyProof.Rows L2

/-! ### no repr is running around -/
abbrev NoG (A : Around) : Prop := A.guards = some []
structure FnG (P : Program) (w : World) (K : PySem.W.Frag) (mg : Str → Option Value) (base : Heap) (CX : CXT) (k : Nat) (f : Addr) (fd : FuncData) (ps : List Str) (sp : Sp) : Prop where
  len : ∀ vs H Q E, sp vs H Q E → vs.length = ps.length
  run : ∀ (A : Around) (outer : List Env) (s : Shared) (H : Hp) (args : Args) (us : List Value) (vs : List V) (Q : VK) (E : XK), Room k A → NoG A → Env0 P w K mg base A outer s H →
    BindsTo s fd args (ps.zip us) → Vals vs us → sp vs H Q E → codeAny (model P w) A (.call (.ref f) args) (CR CX outer P w H s Q E) s
section
variable {P : Program} {w : World} {K : PySem.W.Frag} {mg : Str → Option Value} {base : Heap} {CX : CXT}
theorem FnG.of {k : Nat} {f : Addr} {fd : FuncData} {ps : List Str} {sp : Sp} (F : FnOk P w K mg base CX k f fd ps sp) : FnG P w K mg base CX k f fd ps sp :=
  ⟨F.len, fun A outer s H args us vs Q E hr _ => F.run A outer s H args us vs Q E hr⟩
theorem FnG.mono {j k : Nat} {f : Addr} {fd : FuncData} {ps : List Str} {sp : Sp} (F : FnG P w K mg base CX j f fd ps sp) (h : j ≤ k) : FnG P w K mg base CX k f fd ps sp :=
  ⟨F.len, fun A outer s H args us vs Q E hr => F.run A outer s H args us vs Q E (hr.mono h)⟩
/-- a def by its body, where no repr runs around -/
theorem fng {k : Nat} {f : Addr} {name qual : Str} {params : Arguments} {body : List Stmt} {scope : Scope} {dV kV doc pm cdv ct oc : Value} {an od : Option Addr} {osl : Array (Option Value)} {N ps : List Str} {sp : Sp}
    (lk : K.lookup f = some ⟨oc, od, .func (PySem.W.fnOf name qual params body scope dV kV doc pm an cdv ct), osl⟩) (hcd : PySem.W.codeIn K cdv qual = true) (S : FnScope N ps scope) (len : ∀ vs H Q E, sp vs H Q E → vs.length = ps.length)
    (hbody : ∀ (A : Around) (outer : List Env) (s : Shared) (H : Hp) (vs : List V) (Q : VK) (E : XK), Room k (A.deeper (envOfC qual scope s.heap.objs.size f cdv)) → NoG (A.deeper (envOfC qual scope s.heap.objs.size f cdv)) → sp vs H Q E →
      ∃ t, PSs (cxOf CX P w K mg base N qual scope f cdv A outer s H E) body t ∧ t { nx := fun _ H' => Q .non H', rt := Q } (start N vs) H) :
    FnG P w K mg base CX (k + 1) f (PySem.W.fnOf name qual params body scope dV kV doc pm an cdv ct) ps sp := by
  refine ⟨len, fun A outer s H args us vs Q E hr hg e0 hb r hsp => ?_⟩
  have at0 : ∀ b o, base.get? b = some o → s.heap.get? b = some o := fun b o e => (e0.bs b o e).1
  have hkind : ∀ y ∈ ps.zip us, scope.names.lookup y.1 = some .local ∨ (scope.names.lookup y.1 = some .cell ∧ ((cellsFrom (s.heap.objs.size + 1) scope.names []).lookup y.1).isSome = true) := by
    rintro ⟨n, v⟩ hy
    rcases S.par n (List.of_mem_zip hy).1 with q | q
    · exact .inl q
    · exact .inr ⟨q, PySem.W.cellsFrom_some _ _ _ (.inl q)⟩
  refine codeAny_call_function hr.depth ((e0.mod.kin.keeps at0) _ _ lk) rfl S.co S.gen rfl (PySem.W.codeRec_of (e0.mod.kin.keeps at0) hcd) (hb _ _ _ _ ?_)
  refine wpAny_newFunctionEnv_cells S.kind hkind fun env he s1 x => ?_
  subst he
  refine ⟨(e0.mod.nolimit.keeps at0).keeps x.toInCall.keep, codeAny_func ?_⟩
  obtain ⟨t, ht, hq⟩ := hbody A outer s H vs Q E (hr.deeper _) hg hsp
  refine wpAny_mono (ht.run [] s1 (start N vs) H _ (inv_start S hr.hd e0 (len _ _ _ _ hsp) r x) hq) (fun fl s' hs => ?_) fun e s' hs => hs
  cases fl with
  | ret u =>
    obtain ⟨v, σ', H', J, rv, q⟩ := hs
    exact ⟨v, H', J.os, J.bare, J.base, J.hok, rv, q⟩
  | next =>
    obtain ⟨σ', H', J, q⟩ := hs
    exact ⟨.non, H', J.os, J.bare, J.base, J.hok, rfl, q⟩
  | brk => exact hs.elim fun _ z => z.elim fun _ z => z.2.elim
  | cont => exact hs.elim fun _ z => z.elim fun _ z => z.2.elim
/-- the same for a def as the text has it -/
theorem _root_.L2.Fun.okG {x qual : Str} {st : Stmt} {f : Addr} {fd : FuncData} {N ps : List Str} {k : Nat} {sp : Sp} (F : Fun K x qual st f fd) (S : FnScope N ps (defScope st)) (len : ∀ vs H Q E, sp vs H Q E → vs.length = ps.length)
    (hbody : ∀ (cdv : Value) (A : Around) (outer : List Env) (s : Shared) (H : Hp) (vs : List V) (Q : VK) (E : XK), Room k (A.deeper (envOfC qual (defScope st) s.heap.objs.size f cdv)) → NoG (A.deeper (envOfC qual (defScope st) s.heap.objs.size f cdv)) → sp vs H Q E →
      ∃ t, PSs (cxOf CX0 P w K mg base N qual (defScope st) f cdv A outer s H E).nox (defBody st) t ∧ t { nx := fun _ H' => Q .non H', rt := Q } (start N vs) H) : FnG P w K mg base CX0 (k + 1) f fd ps sp := by
  obtain ⟨oc, od, kV, doc, pm, an, cdv, ct, osl, rfl, lk, hcd⟩ := F.ex
  refine fng lk hcd S len fun A outer s H vs Q E hr hg hsp => ?_
  obtain ⟨t, h, q⟩ := hbody cdv A outer s H vs Q E hr hg hsp
  exact ⟨t, h.nox, q⟩
end
section
variable {X : Cx} {CX : CXT} {k : Nat} {f : Addr} {fd : FuncData} {ps : List Str} {sp : Sp} {dvs : List V} {ds : List Value} {E : XK} {x : Str} {p pos : Pos} {e : Expr} {es : List Expr} {t : TA}
theorem run_fnG {pins : List (Addr × Obj)} {σ : L2.St} {H : Hp} {s : Shared} {Q : VK} {us : List Value} {vs : List V} (F : FnG X.prog X.w X.K X.mg X.base CX k f fd ps sp) (hr : Room k X.A) (hG : NoG X.A) (hb : Binds X.K fd ps ds) (hd : Vals dvs ds) (hx : Passes CX X E)
    (I : Inv X pins σ H s) (r : Vals vs us) (h : sp (vs ++ dvs) H Q E) : wpAny (model X.prog X.w) X.A (call (.ref f) us) (EP X pins σ Q) X.xe s := by
  have r2 : Vals (vs ++ dvs) (us ++ ds) := r.append hd
  have hl : (us ++ ds).length = ps.length := r2.length.symm.trans (F.len _ _ _ _ h)
  refine wpAny_call (codeAny_mono (F.run X.A X.stack s H ⟨us, []⟩ (us ++ ds) (vs ++ dvs) Q E hr hG I.env0 (hb s us I.kIn hl) r2 h) fun r s' hq => ?_)
  match r, hq with
  | .error e, hq => exact hx pins σ H s e s' I hq
  | .ok (.ret u), hq => exact I.after hq
/-- f(e, ..) -/
theorem pe_callG (F : FnG X.prog X.w X.K X.mg X.base CX k f fd ps sp) (hr : Room k X.A) (hG : NoG X.A) (hg : Gl X x) (hm : X.mg x = some (.ref f)) (hk : PySem.W.keepIn X.K (.ref f) = true) (hb : Binds X.K fd ps ds) (hd : Vals dvs ds) (hx : Passes CX X E)
    (ha : PA X (e :: es) t) (hdb : (x == ("__debug__" : Str)) = false := by decide) (he : starEach (e :: es) X.env = (false, eval e X.env) :: starEach es X.env := by rfl) (hpl : (backTo pos (starEach es X.env)).any (·.1) = false := by rfl) :
    PE X (.Call (.Name x p) (e :: es) [] pos) (tCall sp dvs E t) :=
  ⟨fun pins s σ H Q I h => wpAny_Call_Name_kw (ld_glob I hg hm (PySem.W.callWith_K (h₀ := X.base) I.ok.mod.kin hk (thn (ha.run pos pins s σ H _ I h) fun us s1 ⟨vs, H1, I1, r, q⟩ => ⟨I1.kIn, run_fnG F hr hG hb hd hx I1 r q⟩) he hpl) hdb)⟩
end
end Tw

/-! ### the law's end -/
namespace Tw
open PySem PySem.Spec PyProof.Rows L2
theorem law_endG {P : Program} {w : World} {K : PySem.W.Frag} {mg mb : Str → Option Value} {CX : CXT} {k : Nat} {fa a : Addr} {fd : FuncData} {x : Str} {sp : Sp} {s : Shared} {vs : List Value} {ns : List Int}
    (KX : K.In s.heap) (hns : s.heap.Ns mainGlobals mg) (hb : s.heap.Ns builtinsNs mb) (hbb : ∀ x : Str, x ≠ "__name__" → mb x = bootBuiltins x) (hlim : s.heap.NoLimit) (hg : s.gens = #[])
    (ha : s.heap.get? a = some { cls := .type "list", data := .seq vs.toArray }) (hi : IntsAre vs ns) (hl : ns.length ≤ sizeLine) (hr : Room k callerA)
    (F : ∀ base : Heap, K.In base → base.Ns mainGlobals mg → FnG P w K mg base CX k fa fd [x] sp) (hbind : ∀ (s : Shared) (u : Value), BindsTo s fd ⟨[u], []⟩ [(x, u)])
    (hsp : ∀ H : Hp, Only H → SqL K H a (ns.map V.int) → sp [.ref a] H (fun v _ => v = .bl true) fun _ _ _ => False)
    (hCX : ∀ H e s', CX [] H s (fun _ _ _ => False) e s' → False) :
    codeAny (model P w) callerA (.call (.ref fa) ⟨[.ref a], []⟩) (fun r s' => r = .ok (.ret (.bool true)) ∧ OldK s.heap s'.heap ∧ s'.os = s.os ∧ AllBare s'.gens) s := by
  have rv := vals_ints hi
  have lv := hi.length
  have go : ∀ H : Hp, Only H → SqL K H a (ns.map V.int) → HOk P w H s.heap → (∀ b, H b ≠ none → b = a) → (H a ≠ none → K.lookup a = none) →
      codeAny (model P w) callerA (.call (.ref fa) ⟨[.ref a], []⟩) (fun r s' => r = .ok (.ret (.bool true)) ∧ OldK s.heap s'.heap ∧ s'.os = s.os ∧ AllBare s'.gens) s := by
    intro H hO hS hok hA hK
    have none_of : ∀ {b : Addr}, b ≠ a → H b = none := fun {b} hb => by
      cases q : H b with
      | none => rfl
      | some u => exact absurd (hA b (by rw [q]; exact Option.some_ne_none u)) hb
    have noD : ∀ {b : Addr} {o : Obj} {es : Array DictEntry} {ep : Nat}, s.heap.get? b = some o → o.data = .dict es ep → H b = none := fun {b o es ep} e d => none_of fun z => by
      rw [z, ha] at e
      have e2 := Option.some.inj e
      rw [← e2] at d
      cases d
    have nsK : ∀ {b : Addr} {m : Str → Option Value}, s.heap.Ns b m → (hidT s.heap H).Ns b m := fun {b m} ⟨o, es, ep, e, d, r⟩ => ⟨o, es, ep, hidT_get e (noD e d), d, r⟩
    have hKb : K.In (hidT s.heap H) := fun b o e => hidT_get (KX b o e) (by
      by_cases hb : b = a
      · cases q : H b with
        | none => rfl
        | some u =>
          subst hb
          have z := hK (by rw [q]; exact Option.some_ne_none u)
          rw [z] at e
          cases e
      · exact none_of hb)
    have hM : Mod K mg (hidT s.heap H) := ⟨hKb, nsK hns, ⟨mb, nsK hb, hbb⟩, hlim.elim fun mc z => ⟨mc, nsK z.1, z.2⟩⟩
    have e0 : Env0 P w K mg (hidT s.heap H) callerA [] s H := ⟨rfl, hM, fun b o e => of_hidT e, Nat.le_of_eq (hidT_size _ _), trivial, (fun b hb => nomatch hb), hok, .of_eq hg⟩
    refine codeAny_mono ((F _ hKb (nsK hns)).run callerA [] s H ⟨[.ref a], []⟩ [.ref a] [.ref a] _ _ hr rfl e0 (hbind s (.ref a)) (.cons rfl .nil) (hsp H hO hS)) fun r s' h => ?_
    match r, h with
    | .error e, h => exact (hCX H e s' h).elim
    | .ok (.ret u), h =>
      obtain ⟨v, H', os, bare, un, hok', rv', q⟩ := h
      have q' : v = .bl true := q
      subst q'
      obtain rfl : u = Value.bool true := rv'
      refine ⟨rfl, OldK.of_keep fun b o e => ?_, os, bare⟩
      cases q : H b with
      | none => exact un.keep b o e q (fun z => nomatch z) (fun z => nomatch z)
      | some u =>
        rcases hO b with z | ⟨ob, xs, z⟩
        · rw [q] at z
          cases z
        · obtain ⟨e1, _⟩ := hok b _ z
          obtain ⟨e2, _⟩ := hok' b _ (un.frzs b ob _ z)
          rw [e] at e1
          cases e1
          exact e2
  cases hk : K.lookup a with
  | some o =>
    have e := KX a o hk
    rw [ha] at e
    cases e
    exact go (fun _ => none) (fun _ => .inl rfl) (.inr ⟨_, vs.toArray, _, hk, rfl, rfl, rfl, by rw [List.size_toArray, lv]; exact hl, by simpa using rv⟩) (fun b u z => nomatch z) (fun b z => absurd rfl z) fun z => absurd rfl z
  | none =>
    have at1 : (fun b => if b = a then some (HO.frz { cls := .type "list", data := .seq vs.toArray } (.lst (ns.map V.int))) else none : Hp) a = some (HO.frz { cls := .type "list", data := .seq vs.toArray } (.lst (ns.map V.int))) := if_pos rfl
    refine go (fun b => if b = a then some (.frz { cls := .type "list", data := .seq vs.toArray } (.lst (ns.map V.int))) else none) (fun b => ?_) (.inl (.inr ⟨_, at1⟩)) (fun b u z => ?_) (fun b z => ?_) fun _ => hk
    · by_cases hb : b = a
      · exact .inr ⟨_, _, if_pos hb⟩
      · exact .inl (if_neg hb)
    · by_cases hb : b = a
      · subst hb
        rw [at1] at z
        cases z
        exact ⟨ha, by rw [List.length_map]; exact hl, vs, _, rv, ha⟩
      · have z' := (if_neg hb).symm.trans z
        cases z'
    · by_cases hb : b = a
      · exact hb
      · exact absurd (if_neg hb) z
theorem walk_ofG {l : PySem.W.OpenLaw} {n k : Nat} {q : Program} {loose : List Str} {XP : (Str → Option Value) → Heap → Prop} {YP : World → Heap → Prop} {d : DefRec} {K : Params → PySem.W.Frag} {CX : World → CXT} {sp : World → Sp} {x : Str}
    (hn : l.most = some n) (hn2 : n ≤ sizeLine) (hdf : d.params.defaults = []) (hr : Room k callerA) (hY : ∀ (w : World) (h : Heap), YP w h → (K w.params).In h)
    (F : ∀ (w : World) (mg : Str → Option Value) (fa : Addr) (h : Heap), (K w.params).In h → h.Ns mainGlobals mg → mg d.name = some (.ref fa) →
      ∃ fd : FuncData, (∀ (s : Shared) (u : Value), BindsTo s fd ⟨[u], []⟩ [(x, u)]) ∧ ∀ base : Heap, (K w.params).In base → base.Ns mainGlobals mg → FnG l.prog w (K w.params) mg base (CX w) k fa fd [x] (sp w))
    (hsp : ∀ (w : World) (H : Hp) (a : Addr) (ns : List Int), ns.length ≤ n → Only H → SqL (K w.params) H a (ns.map V.int) → sp w [.ref a] H (fun v _ => v = .bl true) fun _ _ _ => False)
    (hCX : ∀ (w : World) (H : Hp) (s : Shared) (e : Value) (s' : Shared), CX w [] H s (fun _ _ _ => False) e s' → False) :
    PySem.W.WalkO q loose XP YP l.row.toRowW d [] (fun f vs => PySem.call f vs) := by
  refine Att.attach_call hn hdf fun w s₀ s₁ mg mb fa o pm cd doc a vs ns G Y ho hd hcd hmg hobj hints hlen hg => ?_
  obtain ⟨fd, hb, hF⟩ := F w mg fa _ (hY w _ Y) G.T.g hmg
  exact law_endG (hY w _ Y) G.T.g G.T.b G.T.builtins G.T.nolimit hg hobj hints (Nat.le_trans hlen hn2) hr hF hb (fun H hO hS => hsp w H a ns hlen hO hS) fun H e s' => hCX w H s₁ e s'
end Tw
/-! Tw, part 2: repr of data. -/
namespace Tw
open PySem PySem.Spec PyProof.Rows L2

/-! ### how long a repr may be -/
mutual
def cap : PyData → Nat
  | .none => 4
  | .bool _ => 5
  | .int _ => 1921
  | .str x => 10 * x.length + 2
  | .list xs => 2 + capAll xs
  | .tuple xs => 3 + capAll xs
  | .dict kvs => 2 + capKv kvs
def capAll : List PyData → Nat
  | [] => 0
  | x :: xs => cap x + 2 + capAll xs
def capKv : List (PyData × PyData) → Nat
  | [] => 0
  | (k, v) :: r => cap k + 4 + cap v + capKv r
end
mutual
/-- ints of moderate size, texts of plain signs -/
def mild : PyData → Bool
  | .none | .bool _ => true
  | .int i => decide (i.natAbs.log2 < 1920)
  | .str x => x.cps.toList.all fun c => decide (c < 16 ^ 8)
  | .list xs | .tuple xs => mildAll xs
  | .dict kvs => mildKv kvs
def mildAll : List PyData → Bool
  | [] => true
  | x :: xs => mild x && mildAll xs
def mildKv : List (PyData × PyData) → Bool
  | [] => true
  | (k, v) :: r => mild k && (mild v && mildKv r)
end
mutual
theorem mild_show : ∀ d : PyData, mild d = true → d.showable = true
  | .none, _ => rfl
  | .bool _, _ => rfl
  | .str _, _ => rfl
  | .int i, h => by simpa [mild, PyData.showable] using h
  | .list xs, h => by
    simp only [PyData.showable]
    exact mild_showAll xs (by simpa [mild] using h)
  | .tuple xs, h => by
    simp only [PyData.showable]
    exact mild_showAll xs (by simpa [mild] using h)
  | .dict kvs, h => by
    simp only [PyData.showable]
    exact mild_showKv kvs (by simpa [mild] using h)
theorem mild_showAll : ∀ xs : List PyData, mildAll xs = true → PyData.showableAll xs = true
  | [], _ => rfl
  | x :: xs, h => by
    have h2 := Bool.and_eq_true_iff.mp (show (mild x && mildAll xs) = true by simpa [mildAll] using h)
    simp only [PyData.showableAll, mild_show x h2.1, mild_showAll xs h2.2, Bool.and_self]
theorem mild_showKv : ∀ kvs : List (PyData × PyData), mildKv kvs = true → PyData.showableKv kvs = true
  | [], _ => rfl
  | (k, v) :: r, h => by
    have h2 := Bool.and_eq_true_iff.mp (show (mild k && (mild v && mildKv r)) = true by simpa [mildKv] using h)
    have h3 := Bool.and_eq_true_iff.mp h2.2
    simp only [PyData.showableKv, mild_show k h2.1, mild_show v h3.1, mild_showKv r h3.2, Bool.and_self]
end
theorem textFrom_le : ∀ (ts : List Str) (k : Nat) (acc : Str), (textFrom k acc ts).length ≤ acc.length + piled ts
  | [], k, acc => by
    show acc.length ≤ acc.length + _
    omega
  | t :: r, k, acc => by
    have ih := textFrom_le r (k + 1) (acc ++ (if k > 0 then ", " else "" : String) ++ t)
    rw [piled_cons]
    show (textFrom (k + 1) (acc ++ (if k > 0 then ", " else "" : String) ++ t) r).length ≤ _
    rw [strLen_append, strLen_append] at ih
    have e : (Str.ofString (if k > 0 then ", " else "" : String)).length ≤ 2 := by
      by_cases hk : k > 0
      · rw [if_pos hk]; decide
      · rw [if_neg hk]; decide
    have e' : ((if k > 0 then ", " else "" : String) : Str).length ≤ 2 := e
    omega
theorem join_le (ts : List Str) : (Str.join ", " ts).length ≤ piled ts := by
  by_cases h : ts = []
  · subst h
    decide
  · have := join_length_add ts h
    omega
theorem piled_le : ∀ (xs : List PyData) (ts : List Str), ts.length = xs.length → (∀ (i : Nat) (x : PyData) (t : Str), xs[i]? = some x → ts[i]? = some t → t.length ≤ cap x) → piled ts ≤ capAll xs
  | [], [], _, _ => Nat.le_refl _
  | x :: xs, t :: ts, hl, h => by
    have h1 := h 0 x t rfl rfl
    have h2 := piled_le xs ts (by simpa using hl) fun i y u e1 e2 => h (i + 1) y u (by simpa using e1) (by simpa using e2)
    rw [piled_cons]
    simp only [capAll]
    omega
  | [], _ :: _, hl, _ => by simp at hl
  | _ :: _, [], hl, _ => by simp at hl
mutual
theorem shown_le : ∀ d : PyData, mild d = true → d.shown.length ≤ cap d
  | .none, _ => by simp only [PyData.shown, cap]; decide
  | .bool b, _ => by
    simp only [PyData.shown, cap]
    cases b <;> decide
  | .int i, h => by
    have h2 : i.natAbs.log2 < 1920 := by simpa [mild] using h
    have e := int_text_length_le (a := i) (k := 1920) (by decide) h2
    simp only [PyData.shown, cap]
    show (Str.ofString (toString i)).length ≤ 1921
    rw [PySem.ofString_length]
    exact e
  | .str x, h => by
    simp only [PyData.shown, cap]
    exact PySem.StrLaws.reprText_len x fun c hc => of_decide_eq_true (List.all_eq_true.mp (show (x.cps.toList.all fun c => decide (c < 16 ^ 8)) = true by simpa [mild] using h) c hc)
  | .list xs, h => by
    have h2 := shownAll_le xs (by simpa [mild] using h)
    simp only [PyData.shown, cap]
    have e := textFrom_le (PyData.shownAll xs) 0 "["
    unfold listText
    rw [strLen_append]
    have e1 : ("[" : Str).length = 1 := by decide
    have e2 : ("]" : Str).length = 1 := by decide
    omega
  | .tuple xs, h => by
    have h2 := shownAll_le xs (by simpa [mild] using h)
    simp only [PyData.shown, cap]
    have e := join_le (PyData.shownAll xs)
    unfold tupleText
    rw [strLen_append, strLen_append]
    have e1 : ("(" : Str).length = 1 := by decide
    have e2 : ((if (PyData.shownAll xs).length == 1 then ",)" else ")" : String) : Str).length ≤ 2 := by
      cases (PyData.shownAll xs).length == 1 <;> decide
    omega
  | .dict kvs, h => by
    have h2 := shownKv_le kvs (by simpa [mild] using h)
    simp only [PyData.shown, cap]
    have e := join_le (PyData.shownKv kvs)
    unfold dictText
    rw [strLen_append, strLen_append]
    have e1 : ("{" : Str).length = 1 := by decide
    have e2 : ("}" : Str).length = 1 := by decide
    omega
theorem shownAll_le : ∀ xs : List PyData, mildAll xs = true → piled (PyData.shownAll xs) ≤ capAll xs
  | [], _ => by simp only [PyData.shownAll, capAll]; decide
  | x :: xs, h => by
    have h2 := Bool.and_eq_true_iff.mp (show (mild x && mildAll xs) = true by simpa [mildAll] using h)
    have a := shown_le x h2.1
    have b := shownAll_le xs h2.2
    simp only [PyData.shownAll, capAll, piled_cons]
    omega
theorem shownKv_le : ∀ kvs : List (PyData × PyData), mildKv kvs = true → piled (PyData.shownKv kvs) ≤ capKv kvs
  | [], _ => by simp only [PyData.shownKv, capKv]; decide
  | (k, v) :: r, h => by
    have h2 := Bool.and_eq_true_iff.mp (show (mild k && (mild v && mildKv r)) = true by simpa [mildKv] using h)
    have h3 := Bool.and_eq_true_iff.mp h2.2
    have a := shown_le k h2.1
    have b := shown_le v h3.1
    have c := shownKv_le r h3.2
    simp only [PyData.shownKv, capKv, piled_cons]
    rw [strLen_append, strLen_append]
    have e1 : (": " : Str).length = 2 := by decide
    omega
end

/-! ### data in the abstract heap, with flat dicts -/
def keyD : Key → PyData
  | .inl i => .int i
  | .inr x => .str x
mutual
inductive Dx (K : PySem.W.Frag) (H : Hp) : V → PyData → Prop
  | non : Dx K H .non .none
  | bl (b : Bool) : Dx K H (.bl b) (.bool b)
  | int (i : Int) : Dx K H (.int i) (.int i)
  | str (x : Str) : Dx K H (.str x) (.str x)
  | lst {a : Addr} {xs : List V} {ds : List PyData} : SqL K H a xs → a ≠ sysModules → DxAll K H xs ds → Dx K H (.ref a) (.list ds)
  | tup {a : Addr} {xs : List V} {ds : List PyData} : SqT K H a xs → DxAll K H xs ds → Dx K H (.ref a) (.tuple ds)
  | dic {a : Addr} {kvs : List (Key × V)} {ds : List PyData} : H a = some (.dK kvs) → DxAll K H (kvs.map (·.2)) ds → Dx K H (.ref a) (.dict ((kvs.map fun p => keyD p.1).zip ds))
inductive DxAll (K : PySem.W.Frag) (H : Hp) : List V → List PyData → Prop
  | nil : DxAll K H [] []
  | cons {v : V} {vs : List V} {d : PyData} {ds : List PyData} : Dx K H v d → DxAll K H vs ds → DxAll K H (v :: vs) (d :: ds)
end
section
variable {X : Cx} {pins : List (Addr × Obj)} {σ : L2.St} {H : Hp} {s : Shared}
theorem DxAll.len : ∀ {vs : List V} {ds : List PyData}, DxAll X.K H vs ds → vs.length = ds.length
  | [], _, .nil => rfl
  | _ :: _, _, .cons _ t => by
    have := DxAll.len t
    simp [this]
theorem readsAll_keys {h : Heap} : ∀ {kvs : List (Key × V)} {ws : List (Key × Value)} {es : List DictEntry}, KV kvs ws → Pairs (mixKind X.prog X.w) es ws → ReadsAll h (es.map (·.key)) (kvs.map fun p => keyD p.1) []
  | [], _, _, .nil, .nil => .nil
  | (k, v) :: kvs, (k', u) :: ws, e :: es, .cons r t, .cons a b q => by
    obtain ⟨r1, r2⟩ := r
    have ih := readsAll_keys (h := h) t q
    have hk : keyIs k' e.key = true := a
    have r1' : k = k' := r1
    subst r1'
    rcases keyIs_shape hk with ⟨i, tk, e1, e2⟩ | ⟨x, tk, e1, e2⟩
    · subst e1
      show ReadsAll h (e.key :: es.map (·.key)) (PyData.int i :: _) ([] ++ [])
      rw [e2]
      exact .cons (.int i tk) ih
    · subst e1
      show ReadsAll h (e.key :: es.map (·.key)) (PyData.str x :: _) ([] ++ [])
      rw [e2]
      exact .cons (.str x tk) ih
theorem vals_of_pairs : ∀ {kvs : List (Key × V)} {ws : List (Key × Value)} {es : List DictEntry}, KV kvs ws → Pairs (mixKind X.prog X.w) es ws → Vals (kvs.map (·.2)) (es.map (·.val))
  | [], _, _, .nil, .nil => .nil
  | (k, v) :: kvs, (k', u) :: ws, e :: es, .cons r t, .cons a b q => by
    obtain ⟨r1, r2⟩ := r
    refine .cons ?_ (vals_of_pairs t q)
    have b' : e.val = u := b
    show RelV v e.val
    rw [b']
    exact r2
theorem map_fst_zip' {α β : Type} : ∀ {l : List α} {m : List β}, l.length = m.length → (l.zip m).map (·.1) = l
  | [], [], _ => rfl
  | _ :: l, _ :: m, h => by
    have := map_fst_zip' (l := l) (m := m) (by simpa using h)
    simp [this]
  | [], _ :: _, h => by simp at h
  | _ :: _, [], h => by simp at h
theorem map_snd_zip' {α β : Type} : ∀ {l : List α} {m : List β}, l.length = m.length → (l.zip m).map (·.2) = m
  | [], [], _ => rfl
  | _ :: l, _ :: m, h => by
    have := map_snd_zip' (l := l) (m := m) (by simpa using h)
    simp [this]
  | [], _ :: _, h => by simp at h
  | _ :: _, [], h => by simp at h
mutual
theorem Dx.reads (I : Inv X pins σ H s) : ∀ {v : V} {d : PyData} {u : Value}, Dx X.K H v d → RelV v u → ∃ as, Reads s.heap u d as ∧ sysModules ∉ as
  | _, _, _, .non, r => by
    cases r
    exact ⟨_, Reads.none, fun z => nomatch z⟩
  | _, _, _, .bl b, r => by
    cases r
    exact ⟨_, Reads.bool b, fun z => nomatch z⟩
  | _, _, _, .int i, r => by
    obtain ⟨t, rfl⟩ := r
    exact ⟨_, Reads.int i t, fun z => nomatch z⟩
  | _, _, _, .str x, r => by
    obtain ⟨t, rfl⟩ := r
    exact ⟨_, Reads.str x t, fun z => nomatch z⟩
  | _, _, _, .lst (a := a) hs hne ha, r => by
    cases r
    obtain ⟨its, rv, ⟨o, n, ho, hc, _, hd⟩, _⟩ := I.list hs
    obtain ⟨as, hr, hn⟩ := DxAll.reads I ha rv
    refine ⟨_, Reads.list ho hc hd hr, fun z => ?_⟩
    rcases List.mem_cons.mp z with z | z
    · exact hne z.symm
    · exact hn z
  | _, _, _, .tup hs ha, r => by
    cases r
    obtain ⟨its, rv, ⟨o, ho, hc, n, hd⟩, _⟩ := I.tuple hs
    obtain ⟨as, hr, hn⟩ := DxAll.reads I ha rv
    exact ⟨_, Reads.tuple ho hc hd hr, hn⟩
  | _, _, _, .dic (kvs := kvs) hs ha, r => by
    cases r
    obtain ⟨_, hsys, ws, hkv, o, es, ep, ho, hx, hd, _, hp, _⟩ := I.hok _ _ hs
    have hl := DxAll.len (X := X) ha
    have rv := vals_of_pairs (X := X) hkv hp
    obtain ⟨as, hr, hn⟩ := DxAll.reads I ha rv
    have hk := readsAll_keys (h := s.heap) hkv hp
    refine ⟨_, Reads.dict ho hx.1 hd (as := []) (bs := as) (by rw [map_fst_zip' (by rw [List.length_map, ← hl, List.length_map])]; exact hk) (by rw [map_snd_zip' (by rw [List.length_map, ← hl, List.length_map])]; exact hr), fun z => ?_⟩
    rcases List.mem_cons.mp (by simpa using z) with z | z
    · rw [← z] at hsys
      simp at hsys
    · exact hn z
theorem DxAll.reads (I : Inv X pins σ H s) : ∀ {vs : List V} {ds : List PyData} {us : List Value}, DxAll X.K H vs ds → Vals vs us → ∃ as, ReadsAll s.heap us ds as ∧ sysModules ∉ as
  | _, _, _, .nil, .nil => ⟨_, .nil, fun z => nomatch z⟩
  | _, _, _, .cons h t, .cons r q => by
    obtain ⟨as, h1, n1⟩ := Dx.reads I h r
    obtain ⟨bs, h2, n2⟩ := DxAll.reads I t q
    exact ⟨_, .cons h1 h2, fun z => (List.mem_append.mp z).elim n1 n2⟩
end
end
end Tw

/-! ### the rules -/
namespace Tw
open PySem PySem.Spec PyProof.Rows L2
theorem boot_repr : bootBuiltins "repr" = some (.builtin "repr") := by decide +kernel
section
variable {X : Cx}
/-- repr(x), x a list or a tuple of data -/
def rRepr (K : PySem.W.Frag) : List V → Hp → VK → Prop := fun xs H Q => ∃ (a : Addr) (d : PyData), xs = [.ref a] ∧ Dx K H (.ref a) d ∧ mild d = true ∧ d.depth ≤ 64 ∧ cap d ≤ 16777216 ∧ Q (.str d.shown) H
theorem call_repr (hG : NoG X.A) (hu : X.A.units + 70 < cLine) : CallR X (.builtin "repr") (rRepr X.K) := by
  intro pins s σ H xs us Q I r h
  obtain ⟨a, d, rfl, hd, hm, hdp, hc, q⟩ := h
  obtain ⟨u, rfl, ru⟩ := vals1 r
  obtain ⟨as, hr, hn⟩ := Dx.reads I hd ru
  cases (show u = Value.ref a from ru)
  exact repr_of_reads' hr (mild_show d hm) (fun _ => hn) hG (by omega) (fun _ _ e => e) (fun h' u tk hk => ⟨.str d.shown, H, I.kept (t' := tk) hk, ⟨_, rfl⟩, q⟩) (Nat.le_trans (shown_le d hm) (by rw [sizeLine_eq]; exact hc))
mutual
theorem dp_reads {pins : List (Addr × Obj)} {σ : L2.St} {H : Hp} {s : Shared} (I : Inv X pins σ H s) : ∀ {v : V} {d : PyData}, Dp X.K H v d → d.hasDict = false
  | _, _, .non => by simp only [PyData.hasDict]
  | _, _, .bl _ => by simp only [PyData.hasDict]
  | _, _, .int _ => by simp only [PyData.hasDict]
  | _, _, .str _ => by simp only [PyData.hasDict]
  | _, _, .lst _ ha => by
    simp only [PyData.hasDict]
    exact dpAll_reads I ha
  | _, _, .tup _ ha => by
    simp only [PyData.hasDict]
    exact dpAll_reads I ha
theorem dpAll_reads {pins : List (Addr × Obj)} {σ : L2.St} {H : Hp} {s : Shared} (I : Inv X pins σ H s) : ∀ {vs : List V} {ds : List PyData}, DpAll X.K H vs ds → PyData.hasDictAll ds = false
  | _, _, .nil => by simp only [PyData.hasDictAll]
  | _, _, .cons h t => by simp only [PyData.hasDictAll, dp_reads I h, dpAll_reads I t, Bool.or_self]
end
def rReprD (K : PySem.W.Frag) : List V → Hp → VK → Prop := fun xs H Q => ∃ (a : Addr) (d : PyData), xs = [.ref a] ∧ Dp K H (.ref a) d ∧ mild d = true ∧ d.depth ≤ 64 ∧ cap d ≤ 16777216 ∧ Q (.str d.shown) H
theorem call_reprD (hG : NoG X.A) (hu : X.A.units + 70 < cLine) : CallR X (.builtin "repr") (rReprD X.K) := by
  intro pins s σ H xs us Q I r h
  obtain ⟨a, d, rfl, hd, hm, hdp, hc, q⟩ := h
  obtain ⟨u, rfl, ru⟩ := vals1 r
  obtain ⟨as, hr⟩ := Dp.reads I d _ u hd ru
  cases (show u = Value.ref a from ru)
  exact repr_of_reads' hr (mild_show d hm) (PyData.noDict_hsm (dp_reads I hd)) hG (by omega) (fun _ _ e => e) (fun h' u tk hk => ⟨.str d.shown, H, I.kept (t' := tk) hk, ⟨_, rfl⟩, q⟩) (Nat.le_trans (shown_le d hm) (by rw [sizeLine_eq]; exact hc))
/-! ### lists that are known to stand elsewhere than the table of modules -/
variable {es : List Expr} {t : TA} {pos : Pos}
def tLstB (t : TA) : TE := fun σ H Q => t σ H fun xs H1 => xs.length ≤ sizeLine ∧ ∀ p, H1 p = none → p ≠ sysModules → Q (.ref p) (upd H1 p (.lst xs))
theorem pe_lstB (h : PA X es t) : PE X (.List es pos) (tLstB t) := by
  refine ⟨fun pins s σ H Q I hq => wpAny_List_spliced (thn (h.run pos pins s σ H _ I hq) fun us s1 ⟨xs, H1, I1, r, z, q⟩ => ⟨by rw [← r.length]; exact z, ?_⟩)⟩
  exact ⟨.ref s1.heap.objs.size, upd H1 s1.heap.objs.size (.lst xs), I1.laid (t' := s1.toks) (fun b u e => Heap.get?_push_of_some _ e) (Nat.le_refl _) ⟨z, us, 0, r, Heap.get?_push_size _ rfl⟩, rfl, q _ (I1.hok.fresh (Nat.le_refl _)) (Nat.ne_of_gt I1.big)⟩
def rCatB : R2 := fun x y H Q => ∃ l b xs zs, x = .ref l ∧ y = .ref b ∧ H l = some (.lst xs) ∧ H b = some (.lst zs) ∧ xs.length + zs.length ≤ sizeLine ∧ ∀ p, H p = none → p ≠ sysModules → Q (.ref p) (upd H p (.lst (xs ++ zs)))
theorem op_catB : OpR X (binaryOp .Add) rCatB := by
  intro pins s σ H x y v u Q I rx ry h
  obtain ⟨l, b, xs, zs, rfl, rfl, hH, hB, hz, q⟩ := h
  cases rx
  cases ry
  obtain ⟨z, its, n, r, hl, e⟩ := I.lstM hH
  obtain ⟨z2, its2, n2, r2, hl2, e2⟩ := I.lstM hB
  refine PySem.P.add_list e e2 ?_ (by rw [List.size_toArray, List.size_toArray]; omega)
  rw [show its.toArray ++ its2.toArray = (its ++ its2).toArray by simp]
  exact ⟨.ref _, _, I.lnew (t' := s.toks) (r.append r2) (by rw [List.length_append]; omega), rfl, q _ I.fresh (Nat.ne_of_gt I.big)⟩
end
end Tw
/-! Tw, part 3: errors of own classes as values. -/
namespace Tw
open PySem PySem.Spec PyProof.Rows L2

/-- at a: an error of the class at C (made or caught), its own dict at d -/
def exT (a C : Addr) (d : Option Addr) : HO := .ext fun h => ∃ (oe : Obj) (vs : Array Value), h.get? a = some oe ∧ Zc (.ref C) d oe ∧ oe.data = .fields vs
theorem exT_ok {P : Program} {w : World} {H : Hp} {h : Heap} {a C : Addr} {d : Option Addr} {oe : Obj} {vs : Array Value} (e : h.get? a = some oe) (z : Zc (.ref C) d oe) (hd : oe.data = .fields vs) : ObjOk P w H h a (exT a C d) :=
  ⟨⟨oe, vs, e, z, hd⟩, ⟨oe, e⟩, fun _ _ ⟨o, v, q, r⟩ k => ⟨o, v, k o q, r⟩⟩
def IsX (H : Hp) (a C : Addr) (d : Option Addr) : Prop := H a = some (exo a C d) ∨ H a = some (exT a C d)
def IsXd (H : Hp) (d : Addr) (fs : List (Str × V)) : Prop := H d = some (exd d fs) ∨ H d = some (.xd fs)
theorem IsX.get {P : Program} {w : World} {H : Hp} {h : Heap} {a C : Addr} {d : Option Addr} (hok : HOk P w H h) (x : IsX H a C d) : ∃ (oe : Obj) (vs : Array Value), h.get? a = some oe ∧ Zc (.ref C) d oe ∧ oe.data = .fields vs := by
  rcases x with e | e
  · obtain ⟨t1, q⟩ := exo_at hok e
    exact ⟨_, _, q, ⟨rfl, rfl⟩, rfl⟩
  · have x : ObjOk P w H h a (.ext fun h => ∃ (oe : Obj) (vs : Array Value), h.get? a = some oe ∧ Zc (.ref C) d oe ∧ oe.data = .fields vs) := hok a _ e
    exact x.1
theorem IsXd.get {P : Program} {w : World} {H : Hp} {h : Heap} {d : Addr} {fs : List (Str × V)} (hok : HOk P w H h) (x : IsXd H d fs) : ∃ mA, h.Ns1 d mA ∧ ∀ f, RelO (fs.lookup f) (mA f) := by
  rcases x with e | e
  · exact exd_at hok e
  · exact (show ObjOk P w H h d (.xd fs) from hok d _ e)
theorem IsX.same {H H' : Hp} {a C : Addr} {d : Option Addr} (e : Same H H') (x : IsX H a C d) : IsX H' a C d := x.imp (e _ _) (e _ _)
theorem IsXd.same {H H' : Hp} {d : Addr} {fs : List (Str × V)} (e : Same H H') (x : IsXd H d fs) : IsXd H' d fs := x.imp (e _ _) (e _ _)

/-- what the written part says of an error class -/
structure XC (K : PySem.W.Frag) (C : Addr) : Prop where
  ox : OexC K C
  ga : PySem.W.findIn K (.ref C) "__getattribute__" = some (some (.builtin "BaseException.__getattribute__"))
  gg : PySem.W.findIn K (.ref C) "__getattr__" = some none
  hd : PySem.W.hasDictIn K C = true
  ca : PySem.W.findIn K (.ref C) "__class__" = some (some (.builtin "object.__class__"))
  cm : PySem.W.mroIn K C (.type "object") = some true
/-- what it says of object.__class__ -/
structure XO (K : PySem.W.Frag) : Prop where
  hn : PySem.W.specialIn K (.builtin "object.__class__") "__get__" = some (some (.builtin "getset_descriptor.__get__"))
  ht : PySem.W.takesIn K (.builtin "object.__class__") = some true
theorem oexC_cl {K : PySem.W.Frag} {C : Addr} (T : OexC K C) : (PySem.W.clsIn K C).isSome = true := by
  obtain ⟨nm, q, N, bs, bm, sn, sub, ab, col, dd, k0, k1, k2, k3, k5, hC, _⟩ := T.cls
  unfold PySem.W.clsIn
  rw [hC]
  rfl
section
variable {X : Cx} {CX : CXT} {k : Nat} {fI C : Addr} {fd : FuncData} {ps : List Str} {sp : Sp} {dvs : List V} {ds : List Value} {E : XK} {x f : Str} {p pos : Pos} {e : Expr} {es : List Expr} {ta : TA} {te : TE}
/-- C(e, ..) as a value, C an error class whose __init__ keeps sp -/
def tMkX (C : Addr) (sp : Sp) (dvs : List V) (ta : TA) : TE := fun σ H Q => ta σ H fun vs H1 => vs.length ≤ 1000 ∧ ∀ a, H1 a = none → sp (.ref a :: (vs ++ dvs)) (upd H1 a (exo a C none)) (fun v H2 => v = .non ∧ Q (.ref a) H2) (fun _ _ _ => False)
theorem pe_mkX (T : OexC X.K C) (iC : PySem.W.findIn X.K (.ref C) "__init__" = some (some (.ref fI))) (tI : PySem.W.typeIn X.K (.ref fI) = some (.type "function"))
    (F1 : FnOk X.prog X.w X.K X.mg X.base CX k fI fd ps sp) (hr : Room (k + 1) X.A) (hb : Binds X.K fd ps ds) (hd : Vals dvs ds) (hx : Passes CX X (fun _ _ _ => False)) (hg : Gl X x) (hm : X.mg x = some (.ref C)) (ha : PA X (e :: es) ta)
    (hdb : (x == ("__debug__" : Str)) = false := by decide) (he : starEach (e :: es) X.env = (false, eval e X.env) :: starEach es X.env := by rfl) (hpl : (backTo pos (starEach es X.env)).any (·.1) = false := by rfl) :
    PE X (.Call (.Name x p) (e :: es) [] pos) (tMkX C sp dvs ta) := by
  refine ⟨fun pins s σ H Q I h => ?_⟩
  obtain ⟨nm, q, N, bs, bm, sn, sub, ab, col, dd, k0, k1, k2, k3, k5, hC, hbm⟩ := T.cls
  refine wpAny_Call_Name_kw (ld_glob I hg hm ?_ hdb)
  refine PySem.W.callWith_K (h₀ := X.base) I.ok.mod.kin T.kC (thn (ha.run pos pins s σ H _ I h) fun us s1 ⟨vs, H1, I1, r1, hz, q1⟩ => ⟨I1.kIn, ?_⟩) he hpl
  show wpAny _ _ (call (.ref C) us) _ _ _
  obtain ⟨hp, g, dr, tk, os⟩ := s1
  have hsz : hp.objs.size ≤ hp.objs.size + 1 := Nat.le_succ _
  have hq := q1 (hp.objs.size + 1) (I1.hok.fresh hsz)
  have kk : ∀ b o, hp.get? b = some o → ((hp.push (PySem.W.kdv_tup us)).push (PySem.HandSPX.excO C hp.objs.size)).get? b = some o := fun b o z => Heap.get?_push_of_some _ (Heap.get?_push_of_some _ z)
  have hget : ((hp.push (PySem.W.kdv_tup us)).push (PySem.HandSPX.excO C hp.objs.size)).get? (hp.objs.size + 1) = some (PySem.HandSPX.excO C hp.objs.size) := by heap_get
  have I2 := I1.laid (t' := tk) (a := hp.objs.size + 1) (o := exo (hp.objs.size + 1) C none) (h' := (hp.push (PySem.W.kdv_tup us)).push (PySem.HandSPX.excO C hp.objs.size)) kk hsz (exo_ok hget)
  have r2 : Vals (V.ref (hp.objs.size + 1) :: (vs ++ dvs)) (Value.ref (hp.objs.size + 1) :: (us ++ ds)) := .cons rfl (r1.append hd)
  have hl : (Value.ref (hp.objs.size + 1) :: us ++ ds).length = ps.length := r2.length.symm.trans (F1.len _ _ _ _ hq)
  have hus : us.length ≤ sizeLine := by
    rw [← Paired.length r1, sizeLine_eq]
    omega
  refine wpAny_call (PySem.HandSPX.call_own F.excBase_ValueError (fun Y => PySem.HandSPX.refsVE_contains Y bm hbm) (I1.kIn _ _ hC) (PySem.W.looks_findIn I1.kIn iC) (fun self => PySem.W.bind_fn I1.kIn self tI) hus
    (codeAny_mono (F1.run _ X.stack _ _ ⟨Value.ref (hp.objs.size + 1) :: us, []⟩ (Value.ref (hp.objs.size + 1) :: (us ++ ds)) _ _ (fun _ _ _ => False) (hr.make C us []) (I2.env0.make C us []) (hb _ (Value.ref (hp.objs.size + 1) :: us) I2.kIn hl) r2 hq) fun r s' hq' => ?_))
  match r, hq' with
  | .error er, hq' => exact hx pins σ _ _ er s' I2 hq'
  | .ok (.ret u), hq' =>
    obtain ⟨v, H2, os2, bare2, un2, hok2, rv, ev, q2⟩ := hq'
    subst ev
    obtain ⟨h2, g2, d2, t2, os'⟩ := s'
    obtain rfl : os' = os := os2
    exact ⟨rv, .ref (hp.objs.size + 1), H2, I2.call (h' := h2) (g' := g2) (d' := d2) (t' := t2) (ch := []) un2 hok2 bare2 (fun b z => nomatch z), rfl, q2⟩
/-- e.f, e an error -/
def tXfld (K : PySem.W.Frag) (f : Str) (te : TE) : TE := fun σ H Q => te σ H fun x H1 => ∃ (a C d : Addr) (fs : List (Str × V)) (v : V), x = .ref a ∧ IsX H1 a C (some d) ∧ XC K C ∧ PySem.W.findIn K (.ref C) f = some none ∧ IsXd H1 d fs ∧ fs.lookup f = some v ∧ Q v H1
theorem pe_xfld (he : PE X e te) (hb : attributeBase e f X.env (eval e X.env) = eval e X.env := by rfl) : PE X (.Attribute e f pos) (tXfld X.K f te) := by
  refine ⟨fun pins s σ H Q I h => attr_of hb (thn (he.run pins s σ H _ I h) fun u s1 hh => ?_)⟩
  obtain ⟨x, H1, I1, rx, a, C, d, fs, v, ex, ia, T, hno, idd, hl, q⟩ := hh
  subst ex
  obtain rfl : u = Value.ref a := rx
  obtain ⟨oe, vs, ho, hz, hdt⟩ := ia.get I1.hok
  obtain ⟨mA, hns, hr⟩ := idd.get I1.hok
  obtain ⟨od, hod, hlk⟩ := lookIn_ns hns
  obtain ⟨u, hu, ru⟩ := RelO.some_of (v := v) (o := mA f) (by rw [← hl]; exact hr f)
  have J : PySem.W.InstAt s1.heap a oe C (some od) := ⟨ho, hz.1, by unfold PySem.W.notCls; rw [hdt] <;> rfl, by rw [hz.2]; exact hod⟩
  exact HandSPX.exc_get I1.kIn J T.ga T.gg T.ox.exC (PySem.W.findObj_own T.hd hno rfl (by rw [hlk, hu])) (handed_of ru) ⟨v, H1, I1.tok _, ru, q⟩
/-- isinstance(x, c), x anything that is known, errors too -/
def rIsA (K : PySem.W.Frag) : List V → Hp → VK → Prop := fun xs H Q => ∃ (x c : V) (t u : Value) (b : Bool), xs = [x, c] ∧ ClsV c u ∧ (TyX K H x t ∨ ∃ (a C : Addr) (d : Addr) (fs : List (Str × V)), x = .ref a ∧ t = .ref C ∧ IsX H a C (some d) ∧ IsXd H d fs ∧ XC K C ∧ XO K) ∧ PySem.W.kitOne K t u = some b ∧ Q (.bl b) H
theorem call_isA : CallR X (.builtin "isinstance") (rIsA X.K) := by
  intro pins s σ H xs us Q I r h
  obtain ⟨x, c, t, u, b, rfl, k, ty, e, q⟩ := h
  obtain ⟨u1, u2, rfl, r1, r2⟩ := vals2 r
  have e2 := k.eq r2
  subst e2
  rcases ty with ty | ⟨a, C, d, fs, rfl, rfl, ia, idd, T, O⟩
  · obtain ⟨P, Z, p, hx⟩ := kit_of I r1 ty
    exact PySem.W.kia_one Z I.kIn p e hx fun tk => ⟨.bl b, H, I.tok tk, rfl, q⟩
  · cases (show u1 = Value.ref a from r1)
    obtain ⟨oe, vs, ho, hz, hdt⟩ := ia.get I.hok
    obtain ⟨mA, hns, hr⟩ := idd.get I.hok
    obtain ⟨od, hod, hlk⟩ := lookIn_ns hns
    have J : PySem.W.InstAt s.heap a oe C (some od) := ⟨ho, hz.1, by unfold PySem.W.notCls; rw [hdt] <;> rfl, by rw [hz.2]; exact hod⟩
    exact PySem.W.kia_one (PySem.W.kitx_exc (od := some od) (oexC_cl T.ox) T.ga T.gg T.ox.exC T.ca O.hn O.ht T.cm) I.kIn J e (fun z => nomatch z) fun tk => ⟨.bl b, H, I.tok tk, rfl, q⟩
end
end Tw
/-! Tw, part 4: the head's facts by names, error classes too. -/
namespace Tw
open PySem PySem.Spec PyProof.Rows L2 He
abbrev Fg := PySem.W.Frag
def excB (K : Fg) (C : Addr) : Bool := match K.lookup C with
  | some ⟨.type t, _, .cls cd, sl⟩ => (match cd.mro, sl.toList with
    | .ref C' :: bm, [_, _, _, _, some (.builtin n), _] => decide (t = "type") && (decide (C' = C) && (decide (n = "ValueError.__new__") && (!cd.hasDel && (cd.hasDict && PySem.HandSPX.refsVE bm))))
    | _, _ => false)
  | _ => false
theorem excB_ok {K : Fg} {C : Addr} (h : excB K C = true) : ∃ nm q N bs bm sn sub ab col dd k0 k1 k2 k3 k5, K.lookup C = some (excClassObj nm q C N bs bm true sn sub ab col dd k0 k1 k2 k3 k5 "ValueError.__new__") ∧ PySem.HandSPX.refsVE bm = true := by
  unfold excB at h
  cases e : K.lookup C with
  | none =>
    rw [e] at h
    cases h
  | some o =>
    rw [e] at h
    obtain ⟨oc, od, dt, sl⟩ := o
    cases oc with
    | type t =>
      cases dt with
      | cls cd =>
        obtain ⟨nm, bs, mro, ns, q, hd, sn, sb, ab, col, del⟩ := cd
        dsimp only at h
        obtain ⟨sl⟩ := sl
        dsimp only at h
        match mro, sl, h with
        | .ref C' :: bm, [k0, k1, k2, k3, some (.builtin n), k5], h =>
          obtain ⟨h1, h⟩ := ba h
          obtain ⟨h2, h⟩ := ba h
          obtain ⟨h3, h⟩ := ba h
          obtain ⟨h4, h⟩ := ba h
          obtain ⟨h5, h6⟩ := ba h
          have e1 := of_decide_eq_true h1
          have e2 := of_decide_eq_true h2
          have e3 := of_decide_eq_true h3
          subst e1 e2 e3
          have e4 : del = false := by simpa using h4
          subst e4
          subst h5
          exact ⟨_, _, _, _, _, _, _, _, _, _, _, _, _, _, _, rfl, h6⟩
      | _ => cases h
    | _ => cases h
inductive Fy where
  | fa (f : Fa)
  | xc (x : Str)
  | xo
  | ini (x : Str)
  | kit (x y : Str) (b : Bool)
  | kitT (x : Str) (T : String) (b : Bool)
  | names (x : Str) (zs : List Str)
def Fy.ok (K : Fg) : Fy → Bool
  | .fa f => f.ok K
  | .xc x => excB K (ga K x) && (eqO (PySem.W.findIn K (.ref (ga K x)) "__setattr__") (some (some (.builtin "object.__setattr__"))) && (decide (PySem.W.subIn K (.ref (ga K x)) (.type "BaseException") = some true) && (decide (PySem.W.typeIn K (.ref (ga K x)) = some (.type "type")) &&
      (PySem.W.keepIn K (.ref (ga K x)) && (eqO (PySem.W.findIn K (.ref (ga K x)) "__getattribute__") (some (some (.builtin "BaseException.__getattribute__"))) && (eqO (PySem.W.findIn K (.ref (ga K x)) "__getattr__") (some none) &&
      (PySem.W.hasDictIn K (ga K x) && (eqO (PySem.W.findIn K (.ref (ga K x)) "__class__") (some (some (.builtin "object.__class__"))) && decide (PySem.W.mroIn K (ga K x) (.type "object") = some true)))))))))
  | .xo => eqO (PySem.W.specialIn K (.builtin "object.__class__") "__get__") (some (some (.builtin "getset_descriptor.__get__"))) && decide (PySem.W.takesIn K (.builtin "object.__class__") = some true)
  | .ini x => eqO (PySem.W.findIn K (.ref (ga K x)) "__init__") (some (some (.ref (ma K (ga K x) "__init__")))) && decide (PySem.W.typeIn K (.ref (ma K (ga K x) "__init__")) = some (.type "function"))
  | .kit x y b => decide (PySem.W.kitOne K (.ref (ga K x)) (.ref (ga K y)) = some b)
  | .kitT x T b => decide (PySem.W.kitOne K (.ref (ga K x)) (.type T) = some b)
  | .names x zs => zs.all fun z => eqO (PySem.W.findIn K (.ref (ga K x)) z) (some none)
section
variable {K : Fg} {h : Heap} {mg : Str → Option Value}
theorem xc_ok {x : Str} (c : (Fy.xc x).ok K = true) : XC K (ga K x) := by
  obtain ⟨c1, c⟩ := ba c
  obtain ⟨c2, c⟩ := ba c
  obtain ⟨c3, c⟩ := ba c
  obtain ⟨c4, c⟩ := ba c
  obtain ⟨c5, c⟩ := ba c
  obtain ⟨c6, c⟩ := ba c
  obtain ⟨c7, c⟩ := ba c
  obtain ⟨c8, c⟩ := ba c
  obtain ⟨c9, c10⟩ := ba c
  exact ⟨⟨excB_ok c1, eqO_ok c2, of_decide_eq_true c3, of_decide_eq_true c4, c5⟩, eqO_ok c6, eqO_ok c7, c8, eqO_ok c9, of_decide_eq_true c10⟩
theorem xo_ok (c : Fy.xo.ok K = true) : XO K := by
  unfold Fy.ok at c
  obtain ⟨c1, c2⟩ := ba c
  exact ⟨eqO_ok c1, of_decide_eq_true c2⟩
theorem ini_ok {x : Str} (c : (Fy.ini x).ok K = true) : PySem.W.findIn K (.ref (ga K x)) "__init__" = some (some (.ref (ma K (ga K x) "__init__"))) ∧ PySem.W.typeIn K (.ref (ma K (ga K x) "__init__")) = some (.type "function") := by
  obtain ⟨c1, c2⟩ := ba c
  exact ⟨eqO_ok c1, of_decide_eq_true c2⟩
theorem kit_ok {x y : Str} {b : Bool} (c : (Fy.kit x y b).ok K = true) : PySem.W.kitOne K (.ref (ga K x)) (.ref (ga K y)) = some b := of_decide_eq_true c
theorem kitT_ok {x : Str} {T : String} {b : Bool} (c : (Fy.kitT x T b).ok K = true) : PySem.W.kitOne K (.ref (ga K x)) (.type T) = some b := of_decide_eq_true c
theorem names_ok {x : Str} {zs : List Str} (c : (Fy.names x zs).ok K = true) {z : Str} (hz : z ∈ zs) : PySem.W.findIn K (.ref (ga K x)) z = some none := eqO_ok (List.all_eq_true.mp c z hz)
end
/-! ### the hook: any truths of the written part, in groups -/
abbrev Fz := List (Fg → Bool)
def obsY (fs : Fz) (fn : List DefD) (K : Fg) : AlD := ((fs.all fun f => f K) && fn.all fun d => d.ok K, fn.map fun d => fnW K d.at_)
def SaysY (fs : Fz) (fn : List DefD) (K : Fg) : Prop := obsY fs fn K = valD fn
def obsYG (n : Nat) (fs : Fz) (fn : List DefD) (g : Addr → Option Obj) : AlD := obsY fs fn (frG g (asD g n))
def hookY (n : Nat) (fs : Fz) (fn : List DefD) : PySem.W.Hook where
  α := AlD
  obs := fun s => obsYG n fs fn s.heap.get?
  val := fun _ => valD fn
  says := fun _ h => ∃ K : Fg, K.In h ∧ SaysY fs fn K
  of := fun _ _ e => ⟨_, frG_in, e⟩
  keeps := fun _ _ _ ⟨K, hK, c⟩ k => ⟨K, PySem.W.Frag.In.keeps hK k, c⟩
theorem obsYG_eq {n : Nat} {fs : Fz} {fn : List DefD} {g : Addr → Option Obj} {s : Shared} (h : ∀ a, g a = s.heap.get? a) : obsYG n fs fn g = (hookY n fs fn).obs s := by
  have e : g = s.heap.get? := funext h
  rw [e] <;> rfl
section
variable {fs : Fz} {fn : List DefD} {K : Fg}
theorem SaysY.fact (c : SaysY fs fn K) (i : Nat) {f : Fg → Bool} (h : fs[i]? = some f := by rfl) : f K = true := by
  have c1 := (ba (show ((fs.all fun f => f K) && fn.all fun d => d.ok K) = true from congrArg (fun z : AlD => z.1) c)).1
  exact List.all_eq_true.mp c1 f (List.mem_of_getElem? h)
theorem SaysY.def_ (c : SaysY fs fn K) (i : Nat) {d : DefD} (h : fn[i]? = some d := by rfl) : ∃ fd, FunD K d.name d.qual d.params d.body d.scope (d.dvs K) (d.kws K) (fAd K d.at_) fd := by
  have c2 := (ba (show ((fs.all fun f => f K) && fn.all fun d => d.ok K) = true from congrArg (fun z : AlD => z.1) c)).2
  have e : fn.map (fun d => fnW K d.at_) = fn.map DefD.val := congrArg (fun z : AlD => z.2) c
  have e2 : (fn.map fun d => fnW K d.at_)[i]? = (fn.map DefD.val)[i]? := by rw [e]
  rw [List.getElem?_map, List.getElem?_map, h] at e2
  exact DefD.funD (Option.some.inj e2) (List.all_eq_true.mp c2 d (List.mem_of_getElem? h))
/-- a group told of each item of a list -/
theorem of_all {α : Type} {l : List α} {f : α → Bool} (h : l.all f = true) {x : α} (hx : x ∈ l) : f x = true := List.all_eq_true.mp h x hx
end
/-! ### defs as data -/
abbrev FnP (K : Fg) (x qual : Str) (st : Stmt) (f : Addr) (fd : FuncData) : Prop := FunD K x qual (defArgs st) (defBody st) (defScope st) [] [] f fd
theorem _root_.L2.FunD.okG {P : Program} {w : World} {K : Fg} {mg : Str → Option Value} {base : Heap} {CX : CXT} {x qual : Str} {params : Arguments} {body : List Stmt} {scope : Scope} {dvs : List V} {kws : List (Str × V)} {f : Addr} {fd : FuncData} {N ps : List Str} {k : Nat} {sp : Sp}
    (F : FunD K x qual params body scope dvs kws f fd) (S : FnScope N ps scope) (len : ∀ vs H Q E, sp vs H Q E → vs.length = ps.length)
    (hbody : ∀ (cdv : Value) (A : Around) (outer : List Env) (s : Shared) (H : Hp) (vs : List V) (Q : VK) (E : XK), Room k (A.deeper (envOfC qual scope s.heap.objs.size f cdv)) → NoG (A.deeper (envOfC qual scope s.heap.objs.size f cdv)) → sp vs H Q E →
      ∃ t, PSs (cxOf CX P w K mg base N qual scope f cdv A outer s H E) body t ∧ t { nx := fun _ H' => Q .non H', rt := Q } (start N vs) H) : FnG P w K mg base CX (k + 1) f fd ps sp := by
  obtain ⟨oc, od, dV, kV, doc, pm, an, cdv, ct, osl, rfl, lk, hcd, _, _⟩ := F.ex
  exact fng lk hcd S len fun A outer s H vs Q E hr hg hsp => hbody cdv A outer s H vs Q E hr hg hsp
/-! ### the law's end over facts -/
theorem walk_ofEG {l : PySem.W.OpenLaw} {n k : Nat} {q : Program} {loose : List Str} {XP : (Str → Option Value) → Heap → Prop} {YP : World → Heap → Prop} {d : DefRec} {CX : CXT} {x : Str}
    (hn : l.most = some n) (hn2 : n ≤ sizeLine) (hdf : d.params.defaults = []) (hr : Room k callerA)
    (F : ∀ (w : World) (mg : Str → Option Value) (fa : Addr) (h : Heap), YP w h → h.Ns mainGlobals mg → mg d.name = some (.ref fa) →
      ∃ (K : Fg) (fd : FuncData) (sp : Sp), K.In h ∧ (∀ (s : Shared) (u : Value), BindsTo s fd ⟨[u], []⟩ [(x, u)]) ∧
        (∀ (H : Hp) (a : Addr) (ns : List Int), ns.length ≤ n → Only H → SqL K H a (ns.map V.int) → sp [.ref a] H (fun v _ => v = .bl true) fun _ _ _ => False) ∧
        ∀ base : Heap, K.In base → base.Ns mainGlobals mg → FnG l.prog w K mg base CX k fa fd [x] sp)
    (hCX : ∀ (H : Hp) (s : Shared) (e : Value) (s' : Shared), CX [] H s (fun _ _ _ => False) e s' → False) :
    PySem.W.WalkO q loose XP YP l.row.toRowW d [] (fun f vs => PySem.call f vs) := by
  refine Att.attach_call hn hdf fun w s₀ s₁ mg mb fa o pm cd doc a vs ns G Y ho hd hcd hmg hobj hints hlen hg => ?_
  obtain ⟨K, fd, sp, KX, hb, hsp, hF⟩ := F w mg fa _ Y G.T.g hmg
  exact law_endG KX G.T.g G.T.b G.T.builtins G.T.nolimit hg hobj hints (Nat.le_trans hlen hn2) hr hF hb (fun H hO hS => hsp H a ns hlen hO hS) fun H e s' => hCX H s₁ e s'
end Tw
/-! Tw: new objects, told by what holds of the heap behind them alone. -/
namespace Tw
open PySem PySem.Spec PyProof.Rows L2
theorem same_new {H : Hp} {p : Addr} {o : HO} (h : H p = none) : Same H (upd H p o) := fun b u e => by
  rw [upd_ne (ne_of_none e h)]
  exact e
section
variable {X : Cx} {es : List Expr} {t : TA} {pos : Pos}
/-- a new object o: its place, the heap behind -/
def New (H : Hp) (o : HO) (Q : Addr → Hp → Prop) : Prop := ∀ (p : Addr) (H' : Hp), H p = none → p ≠ sysModules → Same H H' → H' p = some o → Q p H'
theorem New.at {H : Hp} {o : HO} {Q : Addr → Hp → Prop} (h : New H o Q) {p : Addr} (h1 : H p = none) (h2 : p ≠ sysModules) : Q p (upd H p o) := h p _ h1 h2 (same_new h1) upd_same
def tLstN (t : TA) : TE := fun σ H Q => t σ H fun xs H1 => xs.length ≤ sizeLine ∧ New H1 (.lst xs) fun p H' => Q (.ref p) H'
theorem pe_lstN (h : PA X es t) : PE X (.List es pos) (tLstN t) := by
  refine ⟨fun pins s σ H Q I hq => wpAny_List_spliced (thn (h.run pos pins s σ H _ I hq) fun us s1 ⟨xs, H1, I1, r, z, q⟩ => ⟨by rw [← r.length]; exact z, ?_⟩)⟩
  exact ⟨.ref s1.heap.objs.size, upd H1 s1.heap.objs.size (.lst xs), I1.laid (t' := s1.toks) (fun b u e => Heap.get?_push_of_some _ e) (Nat.le_refl _) ⟨z, us, 0, r, Heap.get?_push_size _ rfl⟩, rfl, q.at (I1.hok.fresh (Nat.le_refl _)) (Nat.ne_of_gt I1.big)⟩
def tTupN (t : TA) : TE := fun σ H Q => t σ H fun xs H1 => xs.length ≤ sizeLine ∧ ∀ (p : Addr) (H' : Hp), H1 p = none → Same H1 H' → H' p = some (.tup xs) → Q (.ref p) H'
theorem pe_tupN {x1} (h : PA X es t) : PE X (.Tuple es x1 pos) (tTupN t) := by
  refine ⟨fun pins s σ H Q I hq => wpAny_Tuple_spliced (thn (h.run pos pins s σ H _ I hq) fun us s1 ⟨xs, H1, I1, r, z, q⟩ => ⟨by rw [← r.length]; exact z, ?_⟩)⟩
  have hf : H1 s1.heap.objs.size = none := I1.hok.fresh (Nat.le_refl _)
  exact ⟨.ref s1.heap.objs.size, upd H1 s1.heap.objs.size (.tup xs), I1.laid (t' := s1.toks) (fun b u e => Heap.get?_push_of_some _ e) (Nat.le_refl _) ⟨z, us, r, _, Heap.get?_push_size _ rfl, rfl, 0, rfl⟩, rfl, q _ _ hf (same_new hf) upd_same⟩
def tDnewN : TE := fun _ H Q => New H (.dK []) fun p H' => Q (.ref p) H'
theorem pe_dnewN : PE X (.Dict [] [] pos) tDnewN := ⟨fun pins s σ H Q I h =>
  wpAny_Dict_empty ⟨.ref s.heap.objs.size, _, I.laid (a := s.heap.objs.size) (o := .dK []) (t' := s.toks) (fun _ _ q => Heap.get?_push_of_some _ q) (Nat.le_refl _) (dk_empty s.heap I.big), rfl, h.at (I.hok.fresh (Nat.le_refl _)) (Nat.ne_of_gt I.big)⟩⟩
def rCatN : R2 := fun x y H Q => ∃ l b xs zs, x = .ref l ∧ y = .ref b ∧ H l = some (.lst xs) ∧ H b = some (.lst zs) ∧ xs.length + zs.length ≤ sizeLine ∧ New H (.lst (xs ++ zs)) fun p H' => Q (.ref p) H'
theorem op_catN : OpR X (binaryOp .Add) rCatN := by
  intro pins s σ H x y v u Q I rx ry h
  obtain ⟨l, b, xs, zs, rfl, rfl, hH, hB, hz, q⟩ := h
  cases rx
  cases ry
  obtain ⟨z, its, n, r, hl, e⟩ := I.lstM hH
  obtain ⟨z2, its2, n2, r2, hl2, e2⟩ := I.lstM hB
  refine PySem.P.add_list e e2 ?_ (by rw [List.size_toArray, List.size_toArray]; omega)
  rw [show its.toArray ++ its2.toArray = (its ++ its2).toArray by simp]
  exact ⟨.ref _, _, I.lnew (t' := s.toks) (r.append r2) (by rw [List.length_append]; omega), rfl, q.at I.fresh (Nat.ne_of_gt I.big)⟩
end
end Tw
namespace Tw
open PySem PySem.Spec PyProof.Rows L2
theorem room70 {k : Nat} {A : Around} (r : Room k A) : A.units + 70 < cLine := by
  have := r.un
  omega
section
variable {X : Cx} {K : PySem.W.Frag}
theorem ixl (K : PySem.W.Frag) (h : X.K = K := by rfl) : IxR X (rIxL K) := by
  subst h
  exact ix_list
theorem ixt (K : PySem.W.Frag) (h : X.K = K := by rfl) : IxR X (rIxT K) := by
  subst h
  exact ix_tup
end
end Tw
/-! Tw, part 5: the pen that draws. -/
namespace Tw
open PySem PySem.Spec PyProof.Rows L2 He
/-- a statement, what holds behind it on every way, the rest once -/
def tMid (t u : TS) : TS := fun D σ H => ∃ W : L2.St → Hp → Prop, t { D with nx := W } σ H ∧ ∀ σ' H', W σ' H' → u D σ' H'
theorem pss_mid {X : Cx} {st : Stmt} {rest : List Stmt} {t u : TS} (h1 : PS X st t) (h2 : PSs X rest u) : PSs X (st :: rest) (tMid t u) :=
  ⟨fun pins s σ H D I ⟨W, hm, hu⟩ => wpAny_execs_cons (thn (h1.run pins s σ H { D with nx := W } I hm) fun f s1 q => match f, q with
    | .next, ⟨σ', H', I', q⟩ => h2.run pins s1 σ' H' D I' (hu σ' H' q)
    | .ret _, q => q
    | .brk, q => q
    | .cont, q => q)⟩
/-- all that was tracked but p stands -/
def But (p : Addr) (H H' : Hp) : Prop := ∀ b o, H b = some o → b ≠ p → H' b = some o
theorem But.refl {p : Addr} (H : Hp) : But p H H := fun _ _ e _ => e
theorem But.trans {p : Addr} {H H1 H2 : Hp} (a : But p H H1) (b : But p H1 H2) : But p H H2 := fun c o e h => b c o (a c o e h) h
theorem But.of {p : Addr} {H H' : Hp} (e : Same H H') : But p H H' := fun b o h _ => e b o h
theorem But.upd {p : Addr} {H : Hp} {o : HO} : But p H (upd H p o) := fun b u e h => by
  rw [upd_ne h]
  exact e
/-- the pen: the script's ints, the number of draws so far, what is left of a great number -/
def PenAt (H : Hp) (p : Addr) (c : Nat) : Prop := ∃ (l : Addr) (ns : List Int) (i g : Int), H p = some (.lst [.ref l, .int i, .int g]) ∧ H l = some (.lst (ns.map V.int)) ∧ l ≠ p ∧ ns.length ≤ 63 ∧ 0 ≤ i ∧ i ≤ (c : Int) ∧ 0 ≤ g
theorem PenAt.mono {H : Hp} {p : Addr} {c c' : Nat} (h : PenAt H p c) (hc : c ≤ c') : PenAt H p c' := by
  obtain ⟨l, ns, i, g, h1, h2, h3, h4, h5, h6, h7⟩ := h
  exact ⟨l, ns, i, g, h1, h2, h3, h4, h5, by omega, h7⟩
theorem PenAt.same {H H' : Hp} {p : Addr} {c : Nat} (e : Same H H') (h : PenAt H p c) : PenAt H' p c := by
  obtain ⟨l, ns, i, g, h1, h2, h3⟩ := h
  exact ⟨l, ns, i, g, e _ _ h1, e _ _ h2, h3⟩
/-- a draw: below many, the pen one further, nothing else touched -/
def spDraw : Sp := fun vs H Q _ => ∃ (p : Addr) (m : Int) (c : Nat), vs = [.ref p, .int m] ∧ 0 < m ∧ m < 1073741824 ∧ PenAt H p c ∧ c ≤ 1000000 ∧
  ∀ (r : Int) (H' : Hp), 0 ≤ r → r < m → PenAt H' p (c + 1) → But p H H' → Q (.int r) H'
theorem dp_ints {K : Fg} {H : Hp} : ∀ ns : List Int, DpAll K H (ns.map V.int) (ns.map PyData.int)
  | [] => .nil
  | n :: ns => .cons (.int n) (dp_ints ns)
theorem lay_ints : ∀ ns : List Int, PyData.canLayAll0 (ns.map PyData.int) = true ∧ PyData.depthAll (ns.map PyData.int) = 0
  | [] => ⟨rfl, rfl⟩
  | n :: ns => by
    obtain ⟨h1, h2⟩ := lay_ints ns
    constructor
    · simp only [List.map_cons, PyData.canLayAll0, PyData.canLay0, h1, Bool.and_self]
    · simp only [List.map_cons, PyData.depthAll, PyData.depth, h2, Nat.max_self]
theorem shaped_ints (ns : List Int) : SeqAt.shaped (.list (ns.map PyData.int)) = true := by
  obtain ⟨h1, h2⟩ := lay_ints ns
  simp [SeqAt.shaped, PyData.canLay0, PyData.depth, h1, h2]
theorem atI_of {xs : List V} {i : Int} {v : V} (h0 : 0 ≤ i) (h : xs[i.toNat]? = some v) : atI xs i = some v := by
  have e : i = (i.toNat : Int) := (Int.toNat_of_nonneg h0).symm
  rw [e]
  exact atI_nat h
theorem mul_le' {a b A B : Int} (h1 : 0 ≤ a) (h2 : a ≤ A) (h3 : 0 ≤ b) (h4 : b ≤ B) : 0 ≤ a * b ∧ a * b ≤ A * B :=
  ⟨Int.mul_nonneg h1 h3, Int.mul_le_mul h2 h4 h3 (Int.le_trans h1 h2)⟩
theorem pow_ok (i : Int) (h0 : 0 ≤ i) (h : i < 2 ^ 64) : i.natAbs < 2 ^ 64 := by omega
end Tw
namespace Tw
open PySem PySem.Spec PyProof.Rows L2 He
theorem But.seq {K : Fg} {p a : Addr} {H H' : Hp} {xs : List V} (e : But p H H') (hne : a ≠ p) (h : SqL K H a xs) : SqL K H' a xs := by
  rcases h with (h | ⟨o, h⟩) | h
  · exact .inl (.inl (e _ _ h hne))
  · exact .inl (.inr ⟨o, e _ _ h hne⟩)
  · exact .inr h
theorem cut_ints (ns : List Int) (lo hi : Option Int) : ∃ ms : List Int, cutV (ns.map V.int) lo hi = ms.map V.int ∧ ms.length ≤ ns.length := by
  refine ⟨(ns.drop (HT.sIx (ns.map V.int).length 0 lo)).take (HT.sIx (ns.map V.int).length (ns.map V.int).length hi - HT.sIx (ns.map V.int).length 0 lo), ?_, ?_⟩
  · unfold cutV
    rw [List.map_take, List.map_drop]
  · rw [List.length_take, List.length_drop]
    omega
/-- a new pen -/
def spPen (K : Fg) : Sp := fun vs H Q _ => ∃ (a : Addr) (ns : List Int), vs = [.ref a] ∧ SqL K H a (ns.map V.int) ∧ ns.length ≤ 63 ∧ ∀ (p : Addr) (H' : Hp), H p = none → PenAt H' p 0 → Same H H' → Q (.ref p) H'
/-- an item of a list that is not the pen, drawn -/
def spPick (K : Fg) : Sp := fun vs H Q _ => ∃ (p q : Addr) (xs : List V) (c : Nat), vs = [.ref p, .ref q] ∧ SqL K H q xs ∧ q ≠ p ∧ 0 < xs.length ∧ xs.length < 1000 ∧ PenAt H p c ∧ c ≤ 1000000 ∧
  ∀ (v : V) (H' : Hp), v ∈ xs → PenAt H' p (c + 1) → But p H H' → Q v H'
/-- the heap without the pen -/
def hid (p : Addr) (H : Hp) : Hp := fun b => if b = p then none else H b
theorem hid_ne {p b : Addr} {H : Hp} (h : b ≠ p) : hid p H b = H b := if_neg h
theorem hid_same {p : Addr} {H : Hp} : Same (hid p H) H := fun b o e => by
  unfold hid at e
  split at e
  · cases e
  · exact e
theorem hid_but {p : Addr} {H H' : Hp} (e : But p H H') : Same (hid p H) (hid p H') := fun b o h => by
  unfold hid at h ⊢
  split at h
  · cases h
  · rename_i hb
    rw [if_neg hb]
    exact e b o h hb
theorem sqT_same {K : Fg} {H H' : Hp} {a : Addr} {xs : List V} (e : Same H H') (h : SqT K H a xs) : SqT K H' a xs := by
  rcases h with (h | ⟨o, h⟩) | h
  · exact .inl (.inl (e _ _ h))
  · exact .inl (.inr ⟨o, e _ _ h⟩)
  · exact .inr h
mutual
theorem Dx.same {K : Fg} {H H' : Hp} (e : Same H H') : ∀ {v : V} {d : PyData}, Dx K H v d → Dx K H' v d
  | _, _, .non => .non
  | _, _, .bl b => .bl b
  | _, _, .int i => .int i
  | _, _, .str x => .str x
  | _, _, .lst h n a => .lst (e.seq h) n (DxAll.same e a)
  | _, _, .tup h a => .tup (sqT_same e h) (DxAll.same e a)
  | _, _, .dic h a => .dic (e _ _ h) (DxAll.same e a)
theorem DxAll.same {K : Fg} {H H' : Hp} (e : Same H H') : ∀ {vs : List V} {ds : List PyData}, DxAll K H vs ds → DxAll K H' vs ds
  | _, _, .nil => .nil
  | _, _, .cons h t => .cons (Dx.same e h) (DxAll.same e t)
end
theorem sz1000 {n : Nat} (h : n ≤ 1000) : n ≤ sizeLine := Nat.le_trans h (by decide)
end Tw
/-! Tw: the pen again, its list of cells named: so that a list that grows beside it is known to be another one. -/
namespace Tw
open PySem PySem.Spec PyProof.Rows L2 He
/-- the pen at p, its cells at l -/
def PenL (H : Hp) (p l : Addr) (c : Nat) : Prop := ∃ (ns : List Int) (i g : Int), H p = some (.lst [.ref l, .int i, .int g]) ∧ H l = some (.lst (ns.map V.int)) ∧ l ≠ p ∧ ns.length ≤ 63 ∧ 0 ≤ i ∧ i ≤ (c : Int) ∧ 0 ≤ g
theorem PenL.mono {H : Hp} {p l : Addr} {c c' : Nat} (h : PenL H p l c) (hc : c ≤ c') : PenL H p l c' := by
  obtain ⟨ns, i, g, h1, h2, h3, h4, h5, h6, h7⟩ := h
  exact ⟨ns, i, g, h1, h2, h3, h4, h5, by omega, h7⟩
theorem PenL.same {H H' : Hp} {p l : Addr} {c : Nat} (e : Same H H') (h : PenL H p l c) : PenL H' p l c := by
  obtain ⟨ns, i, g, h1, h2, h3⟩ := h
  exact ⟨ns, i, g, e _ _ h1, e _ _ h2, h3⟩
/-- another object than the pen and its cells changes -/
theorem PenL.upd {H : Hp} {p l q : Addr} {c : Nat} {o : HO} (h : PenL H p l c) (h1 : q ≠ p) (h2 : q ≠ l) : PenL (L2.upd H q o) p l c := by
  obtain ⟨ns, i, g, e1, e2, r⟩ := h
  exact ⟨ns, i, g, by rw [upd_ne h1.symm]; exact e1, by rw [upd_ne h2.symm]; exact e2, r⟩
/-- what is new is neither -/
theorem PenL.new {H : Hp} {p l q : Addr} {c : Nat} (h : PenL H p l c) (hq : H q = none) : q ≠ p ∧ q ≠ l := by
  obtain ⟨ns, i, g, e1, e2, r⟩ := h
  exact ⟨(ne_of_none e1 hq).symm, (ne_of_none e2 hq).symm⟩
def spDrawL : Sp := fun vs H Q _ => ∃ (p l : Addr) (m : Int) (c : Nat), vs = [.ref p, .int m] ∧ 0 < m ∧ m < 1073741824 ∧ PenL H p l c ∧ c ≤ 1000000 ∧
  ∀ (r : Int) (H' : Hp), 0 ≤ r → r < m → PenL H' p l (c + 1) → But p H H' → Q (.int r) H'
def spPenL (K : Fg) : Sp := fun vs H Q _ => ∃ (a : Addr) (ns : List Int), vs = [.ref a] ∧ SqL K H a (ns.map V.int) ∧ ns.length ≤ 63 ∧ ∀ (p l : Addr) (H' : Hp), H p = none → PenL H' p l 0 → Same H H' → Q (.ref p) H'
def spPickL (K : Fg) : Sp := fun vs H Q _ => ∃ (p l q : Addr) (xs : List V) (c : Nat), vs = [.ref p, .ref q] ∧ SqL K H q xs ∧ q ≠ p ∧ 0 < xs.length ∧ xs.length < 1000 ∧ PenL H p l c ∧ c ≤ 1000000 ∧
  ∀ (v : V) (H' : Hp), v ∈ xs → PenL H' p l (c + 1) → But p H H' → Q v H'
end Tw
/-! Tw: try: body, except x as n: suite, the caught error tracked behind the suite. -/
namespace Tw
open PySem PySem.Spec PyProof.Rows L2
section
variable {X : Cx} {pins : List (Addr × Obj)} {σ : L2.St} {H : Hp} {s : Shared}
/-- a pinned error of ours becomes a tracked one -/
theorem track {a C : Addr} {d : Option Addr} {oe : Obj} {vs : Array Value} (I : Inv X ((a, oe) :: pins) σ H s) (h0 : X.s_0.heap.get? a = none) (hne : ∀ p ∈ X.pn ++ pins, p.1 ≠ a) (hz : Zc (.ref C) d oe) (hd : oe.data = .fields vs) :
    Inv X pins σ (upd H a (exT a C d)) s := by
  obtain ⟨ha, na, nL, nF, nC⟩ := I.pin (a, oe) (List.mem_append_right _ List.mem_cons_self)
  have ne : ∀ {b : Addr} {u : HO}, H b = some u → b ≠ a := fun e => ne_of_none e na
  refine ⟨I.ok, I.os, I.bare, ⟨I.base.keep, I.base.slot, fun b o e n hx => ?_, I.base.there, fun b xs e => ?_, fun b o u e => ?_, fun b ps e => ?_⟩, I.loc, I.cell, ?_, fun x c e => ?_, fun p hp => ?_, fun b u e => ?_, I.len⟩
  · rw [upd_ne (fun z => by rw [z, h0] at e; cases e)]
    exact I.base.free b o e n hx
  · have q := I.base.tups b xs e
    rw [upd_ne (ne q)]
    exact q
  · have q := I.base.frzs b o u e
    rw [upd_ne (ne q)]
    exact q
  · obtain ⟨m, q⟩ := I.base.tbls b ps e
    exact ⟨m, by rw [upd_ne (ne q)]; exact q⟩
  · rw [upd_ne (Ne.symm nL)]
    exact I.free
  · obtain ⟨v, o, ho, hv⟩ := I.cell x c e
    rw [upd_ne (fun z => by
      have z' : c = a := z
      rw [z'] at ho
      have ha' : s.heap.get? a = some oe := ha
      rw [ha'] at ho
      cases ho
      exact nC v hv)]
    exact I.freeC x c e
  · obtain ⟨e1, e2, e3⟩ := I.pin p (by
      rcases List.mem_append.mp hp with z | z
      · exact List.mem_append_left _ z
      · exact List.mem_append_right _ (List.mem_cons_of_mem _ z))
    exact ⟨e1, by rw [upd_ne (hne p hp)]; exact e2, e3⟩
  · by_cases hb : b = a
    · subst hb
      rw [upd_same] at e
      cases e
      exact exT_ok ha hz hd
    · rw [upd_ne hb] at e
      exact (I.hok b u e).stay (fun _ _ _ q => q) (fun c q => by rw [upd_ne (ne q)]; exact q) fun c xs q => by rw [upd_ne (ne q)]; exact q
end
/-- what the clause wishes: its error stands tracked behind the suite -/
def wAsK (K : PySem.W.Frag) (c : Value) (i : Nat) (ts : Addr → Value → Option Addr → TS) (Wout : WX) (D : Ends) : WX := fun cls d σ H =>
  ∃ (C : Addr) (b : Bool), cls = .ref C ∧ PySem.W.exmOne K cls c = some b ∧ (b = true → ∀ a, H a = none → ts a cls d { nx := fun σ' H' => D.nx (σ'.set i none) (upd H' a (exT a C d)), rt := D.rt, bk := fun σ' H' => D.bk (σ'.set i none) H', ct := fun σ' H' => D.ct (σ'.set i none) H' } (σ.set i (some (.ref a))) H) ∧
    (b = false → Wout cls d σ H)
section
variable {X : Cx} {x n : Str} {c : Value} {i : Nat} {body suite : List Stmt} {b₀ : Stmt} {np pos pos' : Pos} {tb : WX → TS} {ts : Addr → Value → Option Addr → TS} {Wout : WX}
theorem ps_tryK (hex : X.ex = []) (hs : X.stack = X.env :: X.outer) (hf : X.env.frame = some X.env.locals) (hN : X.N.Nodup) (hi : X.N[i]? = some n) (hln : X.env.kindOf n = some .local) (hc : Names X x c) (tk : Takes X Wout)
    (hb : ∀ (W : WX) (pn : List (Addr × Obj)) (xe : Value → Shared → Prop), Takes (X.tr pn xe) W → PassesOwn (model X.prog X.w) X.A X.env xe → PSs (X.tr pn xe) body (tb W))
    (hsu : ∀ (a : Addr) (oe : Obj) (cls : Value) (d : Option Addr) (pn : List (Addr × Obj)), Zc cls d oe → (∃ vs, oe.data = .fields vs) → PSs (X.suite a ((a, oe) :: pn)) (b₀ :: suite) (ts a cls d)) :
    PS X (.Try body [.ExceptHandler (some (.Name x np)) (some n) (b₀ :: suite) pos'] [] [] pos) (fun D σ H => tb (wAsK X.K c i ts Wout D) D σ H) := by
  refine ⟨fun pins s σ H D I h => ?_⟩
  have ok := I.ok
  have hfr : X.A.frames = some (X.env :: X.outer) := by rw [ok.frames, hs]
  have hloc : Loc X.env.scope n := .inl hln
  refine wpAny_Try_except ?_
  refine wpAny_mono ((hb (wAsK X.K c i ts Wout D) (X.pn ++ pins) (fun e s₁ => wpAny (model X.prog X.w) X.A (noteFrame e X.env) (fun _ s₂ => wpAny (model X.prog X.w) X.A (setFlight e none) (fun _ s₃ =>
    wpAny (model X.prog X.w) X.A (handleBy e X.env [.ExceptHandler (some (.Name x np)) (some n) (b₀ :: suite) pos']) (SP X pins D) X.xe s₃) X.xe s₂) X.xe s₁) (fun u s' xx => ?_) PassesOwn.looking).run [] s σ H D (I.toTry _) h) (fun f s1 hsp => ?_) (fun e s1 he => he)
  · obtain ⟨a, B, sI, pins', σ', H', cls, d, rfl, J', nb, up, sky, na, os, ag, C, b, hcls, hb1, hyes, hno⟩ := xx
    have J : Inv X pins σ' H' sI := J'.ofTry ok
    have sky' : Sky B (X.env :: X.outer) a (Zc cls d) X.env.locals s'.heap := by rw [← hs]; exact sky
    show wpAny (model X.prog X.w) X.A (noteFrame (.ref a) X.env) _ _ _
    refine Sky.land Zc.steady hfr hf sky' fun h3 fl3 up3 => ?_
    have J3 : Inv X pins σ' H' { s' with heap := h3 } := J.landed nb fl3.1 (up.trans up3) os ag
    obtain ⟨oe3, vs3, he3, hz3, hd3⟩ := fl3.there
    have notFr : ∀ {h : Heap} {o : Obj} {vs : Array Value}, h.FunFrames B (X.env :: X.outer) → h.get? a = some o → o.data = .fields vs → a ∉ frs (X.env :: X.outer) := fun {h o vs} ff e dd hm => by
      obtain ⟨_, o', e', hnf⟩ := ff.mem hm
      rw [e] at e'
      cases e'
      exact hnf _ dd
    have nfr := notFr fl3.2.2.1 he3 hd3
    have nL : a ≠ X.env.locals := fun z => nfr (List.mem_filterMap.mpr ⟨X.env, List.mem_cons_self, by rw [hf, z]⟩)
    have nF : a ∉ X.fs := fun hm => by
      obtain ⟨e, he, q⟩ := List.mem_filterMap.mp hm
      exact nfr (List.mem_filterMap.mpr ⟨e, List.mem_cons_of_mem _ he, q⟩)
    -- the error is new to this def
    have nI : sI.heap.get? a = none := by
      cases e : sI.heap.get? a with
      | none => rfl
      | some o =>
        have z := nb a o e (by rw [hs]; exact nfr)
        have z2 : B.get? a = none := fl3.2.1
        rw [z2] at z
        cases z
    have n0 : X.s_0.heap.get? a = none := by
      cases e : X.s_0.heap.get? a with
      | none => rfl
      | some o =>
        obtain ⟨o', z⟩ := J.base.there a o e (by rw [hex]; exact fun z => nomatch z)
        rw [nI] at z
        cases z
    have npin : ∀ p ∈ X.pn ++ pins, p.1 ≠ a := fun p hp z => by
      obtain ⟨e, _⟩ := J.pin p hp
      rw [z, nI] at e
      cases e
    have S3 := J3.suite he3 hd3 na nL nF
    refine wpAny_handleBy_cons (codeAny_handlers_test ?_) (by intro q; cases q)
    have LT : PySem.W.Looks (model X.prog X.w) h3 (typeOf (.ref a)) cls := fun A Q E s k q => wpAny_typeOf_ref (k _ _ he3) (by rw [hz3.1]; exact q)
    have LM := PySem.W.exm_one (M := model X.prog X.w) (J3.kIn) LT hb1
    have test : ∀ {Q : Value → Shared → Prop} {E : Value → Shared → Prop}, Q c { s' with heap := h3 } → wpAny (model X.prog X.w) (X.A.mark (some (.ref a))) (eval (.Name x np) X.env) Q E { s' with heap := h3 } := fun {Q E} q => by
      obtain ⟨hg, hdbg, hm | ⟨hm, hv, hnn⟩⟩ := hc
      · exact ld_glob (X := X.suite a ((a, oe3) :: (X.pn ++ pins))) S3 hg hm q hdbg
      · exact ld_blt (X := X.suite a ((a, oe3) :: (X.pn ++ pins))) S3 hg hm hv q hnn hdbg
    refine test (LM.here ?_)
    cases b with
    | true =>
      refine codeAny_handlers_suite_as ?_
      refine HandSPX.lands_againZ fl3 fun h4 fl4 up4 => ?_
      have J4 : Inv X pins σ' H' { s' with heap := h4 } := J.landed nb fl4.1 ((up.trans up3).trans up4) os ag
      obtain ⟨oe4, vs4, he4, hz4, hd4⟩ := fl4.there
      have S4 := J4.suite he4 hd4 na nL nF
      refine store_ok (X := X.suite a ((a, oe4) :: (X.pn ++ pins))) (v := .ref a) S4 hN hi hloc rfl (fun s5 S5 => ?_) (.inr hln)
      refine wpAny_mono ((hsu a oe4 cls d (X.pn ++ pins) hz4 ⟨_, hd4⟩).run [] s5 _ H' _ S5 (hyes rfl a na)) (fun f s6 hsp => ?_) (fun _ _ z => False.elim z)
      have end_ : ∀ {σ6 : L2.St} {H6 : Hp} {Q : Shared → Prop}, Inv (X.suite a ((a, oe4) :: (X.pn ++ pins))) [] σ6 H6 s6 → (∀ s7, Inv X ((a, oe4) :: pins) (σ6.set i none) H6 s7 → Q s7) →
          wpAny (model X.prog X.w) X.A (do bindName X.env n .none; unbindBehindTheSuite X.env n pos') (fun _ s7 => Q s7) X.xe s6 := fun {σ6 H6 Q} S6 hq => by
        have J6 : Inv X ((a, oe4) :: pins) σ6 H6 s6 := (S6.unsuite ok).pins_of fun p hp => S6.pin p (List.mem_append_left _ (by
          rcases List.mem_cons.mp hp with z | z
          · exact List.mem_cons.mpr (.inl z)
          · exact List.mem_cons_of_mem _ (List.mem_append_right _ z)))
        exact gone_ok J6 hN hi hln hq
      have drop : ∀ {σ7 : L2.St} {H7 : Hp} {s7 : Shared}, Inv X ((a, oe4) :: pins) σ7 H7 s7 → Inv X pins σ7 H7 s7 := fun J7 => J7.pins_of fun p hp => J7.pin p (List.mem_append_right _ (List.mem_cons_of_mem _ hp))
      subst hcls
      cases f with
      | next =>
        obtain ⟨σ6, H6, S6, q6⟩ := hsp
        exact end_ S6 fun s7 J7 => ⟨_, _, track J7 n0 npin hz4 hd4, q6⟩
      | brk =>
        obtain ⟨σ6, H6, S6, q6⟩ := hsp
        exact end_ S6 fun s7 J7 => ⟨_, _, drop J7, q6⟩
      | cont =>
        obtain ⟨σ6, H6, S6, q6⟩ := hsp
        exact end_ S6 fun s7 J7 => ⟨_, _, drop J7, q6⟩
      | ret u =>
        obtain ⟨v6, σ6, H6, S6, r6, q6⟩ := hsp
        exact end_ S6 fun s7 J7 => ⟨_, _, _, drop J7, r6, q6⟩
    | false =>
      show wpAny _ X.A (handleBy (.ref a) X.env []) _ _ _
      refine wpAny_handleBy_nil ?_
      obtain ⟨k1, k2, k3, oe, vs, T, oT, ts', he, hz, hd, h1, hr⟩ := id fl3
      unfold PySem.passOn
      refine wpAny_bind (wpAny_field he hd h1 ?_)
      rw [if_neg (show ¬ ((Value.ref T == Value.none) = true) from by simp)]
      have fin : wpAny (model X.prog X.w) X.A (setFlight (.ref a) X.env.frame) (fun _ s4 => wpAny (model X.prog X.w) X.A (throw (.ref a) : Sem Flow) (SP X pins D) X.xe s4) X.xe { s' with heap := h3 } := by
        rw [hf]
        refine HandSPX.setFlight_upZ fl3 fun h4 hh4 up4 => wpAny_throw (tk _ _ ?_)
        exact ⟨a, B, sI, pins, σ', H', cls, d, rfl, J, nb, (up.trans up3).trans up4, .inr (.inr (by rw [hs]; exact hh4)), na, os, ag, hno rfl⟩
      first
        | exact wpAny_bind (wpAny_pure (wpAny_bind fin))
        | exact wpAny_bind fin
  · cases f with
    | next =>
      obtain ⟨σ', H', J', q⟩ := hsp
      exact wpAny_execs_nil ⟨σ', H', J'.ofTry ok, q⟩
    | brk =>
      obtain ⟨σ', H', J', q⟩ := hsp
      exact ⟨σ', H', J'.ofTry ok, q⟩
    | cont =>
      obtain ⟨σ', H', J', q⟩ := hsp
      exact ⟨σ', H', J'.ofTry ok, q⟩
    | ret u =>
      obtain ⟨v, σ', H', J', r, q⟩ := hsp
      exact ⟨v, σ', H', J'.ofTry ok, r, q⟩
end
end Tw
/-! Tw: instances of own classes: == and != by an own __eq__, str by an own __str__, made where __init__ may raise. -/
namespace Tw
open PySem PySem.Spec PyProof.Rows L2
/-- the type of anything that is known -/
def TyA (K : PySem.W.Frag) (H : Hp) (x : V) (t : Value) : Prop := TyX K H x t ∨ ∃ (a C : Addr) (d : Addr) (fs : List (Str × V)), x = .ref a ∧ t = .ref C ∧ IsX H a C (some d) ∧ IsXd H d fs ∧ XC K C ∧ XO K
section
variable {X : Cx} {CX : CXT} {pins : List (Addr × Obj)} {σ : L2.St} {H : Hp} {s : Shared} {k : Nat} {f C : Addr} {fd : FuncData} {ps : List Str} {sp : Sp} {E : XK}
theorem tyA_looks {x : V} {u t : Value} (I : Inv X pins σ H s) (r : RelV x u) (ty : TyA X.K H x t) (M : Model) : PySem.W.Looks M s.heap (typeOf u) t := by
  rcases ty with ty | ⟨a, C, d, fs, rfl, rfl, ia, idd, T, O⟩
  · obtain ⟨P, Z, p, _⟩ := kit_of I r ty
    exact Z.ty M s.heap I.kIn p
  · cases (show u = Value.ref a from r)
    obtain ⟨oe, vs, ho, hz, hdt⟩ := ia.get I.hok
    exact fun A Q E s k q => wpAny_typeOf_ref (k _ _ ho) (by rw [hz.1]; exact q)
theorem inst_at (I : Inv X pins σ H s) {a dx : Addr} {fs : List (Str × V)} (e : H a = some (.ins C dx fs)) : ∃ od ox, PySem.W.InstAt s.heap a ox C (some od) := by
  obtain ⟨mA, O, _⟩ := ins_get I.hok e
  obtain ⟨od, J, _⟩ := O.look
  exact ⟨od, _, J⟩
/-- a def run one deeper within a built-in -/
theorem run_in1 {Q : VK} {us : List Value} {vs : List V} (F : FnOk X.prog X.w X.K X.mg X.base CX k f fd ps sp) (hr : Room (k + 1) X.A) (hb : Binds X.K fd ps []) (hx : Passes CX X E) (I : Inv X pins σ H s) (r : Vals vs us) (h : sp vs H Q E) :
    wpAny (model X.prog X.w) X.A.in1 (call (.ref f) us) (EP X pins σ Q) X.xe s := by
  have hl : us.length = ps.length := r.length.symm.trans (F.len _ _ _ _ h)
  have b := hb s us I.kIn (by rw [List.append_nil]; exact hl)
  rw [List.append_nil] at b
  refine wpAny_call (codeAny_mono (F.run X.A.in1 X.stack s H ⟨us, []⟩ us vs Q E hr.in1 I.env0.in1 b r h) fun r s' hq => ?_)
  match r, hq with
  | .error e, hq => exact hx pins σ H s e s' I hq
  | .ok (.ret u), hq => exact I.after hq
theorem run_in2 {Q : VK} {us : List Value} {vs : List V} (F : FnOk X.prog X.w X.K X.mg X.base CX k f fd ps sp) (hr : Room (k + 2) X.A) (hb : Binds X.K fd ps []) (hx : Passes CX X E) (I : Inv X pins σ H s) (r : Vals vs us) (h : sp vs H Q E) :
    wpAny (model X.prog X.w) X.A.in1.in1 (call (.ref f) us) (EP X pins σ Q) X.xe s := by
  have hl : us.length = ps.length := r.length.symm.trans (F.len _ _ _ _ h)
  have b := hb s us I.kIn (by rw [List.append_nil]; exact hl)
  rw [List.append_nil] at b
  have hr1 : Room (k + 1) X.A.in1 := Room.in1 hr
  refine wpAny_call (codeAny_mono (F.run X.A.in1.in1 X.stack s H ⟨us, []⟩ us vs Q E hr1.in1 I.env0.in1.in1 b r h) fun r s' hq => ?_)
  match r, hq with
  | .error e, hq => exact hx pins σ H s e s' I hq
  | .ok (.ret u), hq => exact I.after hq
/-- x == y by x's own __eq__ -/
def rEqOwn (K : PySem.W.Frag) (C : Addr) (sp : Sp) (E : XK) : R2 := fun x y H Q => ∃ (a dx : Addr) (fs : List (Str × V)) (t : Value), x = .ref a ∧ H a = some (.ins C dx fs) ∧ TyA K H y t ∧ PySem.W.notFirst K C t = true ∧ sp [x, y] H Q E
theorem op_eqOwn (hs : PySem.W.findIn X.K (.ref C) "__eq__" = some (some (.ref f))) (hf : PySem.W.isFn X.K (.ref f) = true) (F : FnOk X.prog X.w X.K X.mg X.base CX k f fd ps sp) (hr : Room k X.A) (hb : Binds X.K fd ps []) (hx : Passes CX X E) : OpR X (compareOp .Eq) (rEqOwn X.K C sp E) := by
  intro pins s σ H x y v u Q I rx ry h
  obtain ⟨a, dx, fs, t, rfl, ea, ty, hn, q⟩ := h
  cases (show v = Value.ref a from rx)
  obtain ⟨od, ox, J⟩ := inst_at I ea
  obtain ⟨m, hF⟩ := I.fr
  show wpAny _ _ (richCompare .Eq _ _) _ _ _
  refine PySem.W.cmp_K (op := .Eq) (tb := t) hr.units0 hF I.ok.mod.kin J (tyA_looks I ry ty _) hn hs hf ?_
  refine wpAny_mono (run_fn (dvs := []) (ds := []) (us := [.ref a, u]) (vs := [.ref a, y]) F hr hb .nil hx I (.cons rfl (.cons ry .nil)) q) (fun w s' z => ?_) fun _ _ x => x
  obtain ⟨z', H', I', rz, qz⟩ := z
  exact SlX.cmpback rz ⟨z', H', I', rz, qz⟩
/-- x != y: object.__ne__ asks x's own __eq__ -/
def rNeOwn (K : PySem.W.Frag) (C : Addr) (sp : Sp) (E : XK) : R2 := fun x y H Q => ∃ (a dx : Addr) (fs : List (Str × V)) (t : Value), x = .ref a ∧ H a = some (.ins C dx fs) ∧ TyA K H y t ∧ PySem.W.notFirst K C t = true ∧ sp [x, y] H (fun z H' => ∃ b, z = .bl b ∧ Q (.bl (!b)) H') E
theorem ifBound_objNe {K : PySem.W.Frag} {M : Model} {A : Around} {E : Value → Shared → Prop} {s : Shared} {x : Addr} {ox : Obj} {od : Option Obj} {args : List Value} {Q : Option Value → Shared → Prop} (Y : K.In s.heap) (I : PySem.W.InstAt s.heap x ox C od) (hs : PySem.W.findIn K (.ref C) "__ne__" = some (some (.builtin "object.__ne__")))
    (h : wpAny M A (call (.builtin "object.__ne__") (.ref x :: args)) (fun v => Q (some v)) E s) : wpAny M A (callSpecialIfBound? (.ref x) "__ne__" args) Q E s := by
  simp only [callSpecialIfBound?, bindSpecialIfBound?]
  refine wpAny_holding (wpAny_bind (wpAny_bind (wpAny_bind (I.type.here ((PySem.W.looks_findIn Y hs).here ?_)))))
  refine wpAny_bind (wpAny_askSetting (wpAny_ite ?_))
  have fin : wpAny M A (call (.builtin "object.__ne__") ([.ref x] ++ args) >>= fun v => pure (some v)) Q E s := wpAny_bind (wpAny_mono h (fun v s' h' => wpAny_pure h') fun _ _ h' => h')
  split
  · exact wpAny_bind (wpAny_of_eq (F.cmp_object.ne.bind _) (wpAny_pure (by exact fin)))
  · exact wpAny_tryCatch (wpAny_bind (wpAny_of_eq (F.cmp_object.ne.bind _) (wpAny_pure (by exact fin))))
theorem ne_entry {K : PySem.W.Frag} {prog : Program} {w : World} {A : Around} {E : Value → Shared → Prop} {s : Shared} {x : Addr} {ox : Obj} {od : Option Obj} {b : Value} {Q : Fin → Shared → Prop} (hu : A.units < cLine) (Y : K.In s.heap) (I : PySem.W.InstAt s.heap x ox C od)
    (hs : PySem.W.findIn K (.ref C) "__eq__" = some (some (.ref f))) (hf : PySem.W.isFn K (.ref f) = true)
    (h : wpAny (model prog w) A (call (.ref f) [.ref x, b]) (fun v s' => ∃ c, v = .bool c ∧ Q (.done (.ret (.bool (!c)))) s') E s) : wpAny (model prog w) A (Builtin.«object.__ne__» ⟨[.ref x, b], []⟩) Q E s := by
  unfold Builtin.«object.__ne__»
  repeat (first
    | with_reducible refine wpAny_cRoomFor hu ?_
    | (refine wpAny_bind (m := callSpecialIfBound? (.ref x) (Str.ofString "__eq__") [b])
        (PySem.W.ifBound_K Y I hs hf (wpAny_mono h (fun r s' hr => by
          obtain ⟨b, rfl, hq⟩ := hr
          repeat (first | exact hq | exact wpAny_pure hq | exact wpAny_truthy_bool hq | (refine wpAny_bind (m := truthy (.bool _)) (wpAny_truthy_bool ?_)) | wp_step)) fun _ _ e => e)))
    | wp_step)
theorem ne_own {x : Addr} {ox : Obj} {od : Option Obj} {b tb : Value} {K : PySem.W.Frag} {prog : Program} {w : World} {A : Around} {E : Value → Shared → Prop} {s : Shared} {Q : Value → Shared → Prop} (hu : A.units + 1 < cLine) (Y : K.In s.heap) (I : PySem.W.InstAt s.heap x ox C od) (hb : PySem.W.Looks (model prog w) s.heap (typeOf b) tb) (hn : PySem.W.notFirst K C tb = true)
    (hne : PySem.W.findIn K (.ref C) "__ne__" = some (some (.builtin "object.__ne__"))) (hs : PySem.W.findIn K (.ref C) "__eq__" = some (some (.ref f))) (hf : PySem.W.isFn K (.ref f) = true) (hm : PySem.W.mroIn K C (.type "object") = some true)
    (h : wpAny (model prog w) A.in1 (call (.ref f) [.ref x, b]) (fun v s' => ∃ c, v = .bool c ∧ Q (.bool (!c)) s') E s) : wpAny (model prog w) A (richCompare .NotEq (.ref x) b) Q E s := by
  have one : wpAny (model prog w) A (tryCompare (.ref x) (cmpInfo .NotEq).2.1 b) (fun r s' => ∃ v, r = some v ∧ Q v s') E s := by
    unfold tryCompare
    refine wpAny_bind (ifBound_objNe Y I hne (wpAny_call (codeAny_call_builtin F.cmp_object.ne.plain F.cmpEntry_ne (PySem.W.check_slot F.cmpKind_ne F.cmpSplit_ne (I.type.andThen (PySem.W.looks_mroIn Y hm)) (F.cmpArgs_ne _ _)
      (ne_entry (A := A.in1) hu Y I hs hf (wpAny_mono h (fun v s' hv => ?_) fun _ _ e => e))))))
    obtain ⟨c, rfl, hq⟩ := hv
    first | exact ⟨c, rfl, wpAny_pure ⟨_, rfl, hq⟩⟩ | exact ⟨c, rfl, wpAny_pure (wpAny_pure ⟨_, rfl, hq⟩)⟩ | exact ⟨c, rfl, ⟨_, rfl, hq⟩⟩
  unfold richCompare
  simp only [oneThing_ref]
  refine wpAny_holding (wpAny_bind (wpAny_cRoomFor (Nat.lt_of_succ_lt hu) ?_))
  refine wpAny_bind (I.type.here (wpAny_bind (hb.here ?_)))
  split
  · rename_i q
    have e : PySem.W.subIn K tb (.ref C) = some false := by
      rcases Bool.or_eq_true_iff.mp hn with e | e
      · rw [beq_iff_eq.mp e] at q; simp at q
      · exact beq_iff_eq.mp e
    refine wpAny_bind ((PySem.W.looks_subIn Y e).here ?_)
    simp only [Bool.false_eq_true, if_false]
    refine wpAny_bind (wpAny_mono one (fun r s' z => ?_) fun _ _ e => e)
    obtain ⟨v, rfl, hq⟩ := z
    exact wpAny_pure hq
  · refine wpAny_bind (wpAny_pure ?_)
    simp only [Bool.false_eq_true, if_false]
    refine wpAny_bind (wpAny_mono one (fun r s' z => ?_) fun _ _ e => e)
    obtain ⟨v, rfl, hq⟩ := z
    exact wpAny_pure hq
theorem op_neOwn (hne : PySem.W.findIn X.K (.ref C) "__ne__" = some (some (.builtin "object.__ne__"))) (hs : PySem.W.findIn X.K (.ref C) "__eq__" = some (some (.ref f))) (hf : PySem.W.isFn X.K (.ref f) = true) (hm : PySem.W.mroIn X.K C (.type "object") = some true)
    (F : FnOk X.prog X.w X.K X.mg X.base CX k f fd ps sp) (hr : Room (k + 1) X.A) (hb : Binds X.K fd ps []) (hx : Passes CX X E) : OpR X (compareOp .NotEq) (rNeOwn X.K C sp E) := by
  intro pins s σ H x y v u Q I rx ry h
  obtain ⟨a, dx, fs, t, rfl, ea, ty, hn, q⟩ := h
  cases (show v = Value.ref a from rx)
  obtain ⟨od, ox, J⟩ := inst_at I ea
  show wpAny _ _ (richCompare .NotEq _ _) _ _ _
  refine ne_own (tb := t) (Nat.lt_of_le_of_lt (Nat.le_refl _) hr.in1.units0) I.kIn J (tyA_looks I ry ty _) hn hne hs hf hm ?_
  refine wpAny_mono (run_in1 F hr hb hx I (.cons rx (.cons ry .nil)) q) (fun w s' z => ?_) fun _ _ x => x
  obtain ⟨z', H', I', rz, b, rfl, qz⟩ := z
  exact ⟨b, rz, .bl (!b), H', I', rfl, qz⟩
/-- str(x) by x's own __str__ -/
def rStrOwn (C : Addr) (sp : Sp) (E : XK) : List V → Hp → VK → Prop := fun xs H Q => ∃ (a dx : Addr) (fs : List (Str × V)), xs = [.ref a] ∧ H a = some (.ins C dx fs) ∧ sp [.ref a] H (fun z H' => ∃ c, z = .str c ∧ Q z H') E
theorem call_strOwn (hs : PySem.W.findIn X.K (.ref C) "__str__" = some (some (.ref f))) (hf : PySem.W.isFn X.K (.ref f) = true) (F : FnOk X.prog X.w X.K X.mg X.base CX k f fd ps sp) (hr : Room (k + 2) X.A) (hb : Binds X.K fd ps []) (hx : Passes CX X E) : CallR X (.type "str") (rStrOwn C sp E) := by
  intro pins s σ H xs us Q I r h
  obtain ⟨a, dx, fs, rfl, ea, q⟩ := h
  obtain ⟨u1, rfl, r1⟩ := vals1 r
  cases (show u1 = Value.ref a from r1)
  obtain ⟨od, ox, J⟩ := inst_at I ea
  have hr1 : Room (k + 1) X.A.in1 := Room.in1 hr
  refine PySem.W.kso_call hr1.in1.units0 I.kIn J hs hf ?_
  refine wpAny_mono (run_in2 F hr hb hx I (.cons r1 .nil) q) (fun w s' z => ?_) fun _ _ x => x
  obtain ⟨z', H', I', rz, c, ez, qz⟩ := z
  subst ez
  obtain ⟨t, rfl⟩ := rz
  exact ⟨.str c, H', I', ⟨_, rfl⟩, qz⟩
end
end Tw
/-! Tw: a text times a number; an object made where its __init__ may raise into a try. -/
namespace Tw
open PySem PySem.Spec PyProof.Rows L2
section
variable {X : Cx} {CX : CXT} {k : Nat} {f C : Addr} {fd : FuncData} {ps : List Str} {sp : Sp} {E : L2.St → XK} {x : Str} {p pos : Pos} {e : Expr} {es : List Expr} {t : TA}
theorem op_mul_str : OpR X (binaryOp .Mult) (fun x y H Q => ∃ (z : Str) (n : Int), x = .str z ∧ y = .int n ∧ MulOk z n ∧ Q (.str (Txt.mul z n)) H) := by
  intro pins s σ H x y v u Q I rx ry h
  obtain ⟨z, n, rfl, rfl, ok, q⟩ := h
  obtain ⟨t, rfl⟩ := rx
  obtain ⟨t', rfl⟩ := ry
  exact SB.mul ok fun t' tk => ⟨.str (Txt.mul z n), H, I.tok _, ⟨_, rfl⟩, q⟩
/-- C(..) where C.__init__ may raise -/
def tMakeS (C : Addr) (sp : Sp) (E : L2.St → XK) (t : TA) : TE := fun σ H Q => t σ H fun vs H1 => ∀ x dx, H1 x = none → H1 dx = none → dx ≠ x →
  sp (.ref x :: vs) (upd (upd H1 dx (.own x)) x (.ins C dx [])) (fun v H2 => v = .non ∧ Q (.ref x) H2) (E σ)
theorem run_makeS {pins : List (Addr × Obj)} {σ : L2.St} {H : Hp} {s : Shared} {Q : VK} {us : List Value} {vs : List V} (M : Mk X.K C f) (F : FnOk X.prog X.w X.K X.mg X.base CX k f fd ps sp) (hr : Room (k + 1) X.A) (hb : Binds X.K fd ps [])
    (hx : PassesAt CX X σ (E σ)) (I : Inv X pins σ H s) (r : Vals vs us)
    (h : ∀ x dx, H x = none → H dx = none → dx ≠ x → sp (.ref x :: vs) (upd (upd H dx (.own x)) x (.ins C dx [])) (fun v H2 => v = .non ∧ Q (.ref x) H2) (E σ)) :
    wpAny (model X.prog X.w) X.A (call (.ref C) us) (EP X pins σ Q) X.xe s := by
  have hq := h (s.heap.objs.size + 1) s.heap.objs.size (I.hok.fresh (Nat.le_succ _)) (I.hok.fresh (Nat.le_refl _)) (Nat.ne_of_lt (Nat.lt_succ_self _))
  have I2 := Inv.made (C := C) I
  have r2 : Vals (V.ref (s.heap.objs.size + 1) :: vs) (Value.ref (s.heap.objs.size + 1) :: us) := .cons rfl r
  have hl : (Value.ref (s.heap.objs.size + 1) :: us).length = ps.length := by
    have e := r2.length
    rw [F.len _ _ _ _ hq] at e
    exact e.symm
  have b := hb _ (Value.ref (s.heap.objs.size + 1) :: us) I2.kIn (by rw [List.append_nil]; exact hl)
  rw [List.append_nil] at b
  refine wpAny_call (make_map (f := f) I.kIn M.makes M.init (beq_iff_eq.mp M.fn) (codeAny_mono (F.run _ X.stack _ _ ⟨Value.ref (s.heap.objs.size + 1) :: us, []⟩ (Value.ref (s.heap.objs.size + 1) :: us) _ _ (E σ) (hr.make C us [])
    (I2.env0.make C us []) b r2 hq) fun r s' hq' => ?_))
  cases r with
  | error e => exact hx pins _ _ e s' I2 hq'
  | ok fl =>
    cases fl with
    | ret u =>
      obtain ⟨v, H', I3, rv, ev, q3⟩ := I2.after hq'
      subst ev
      exact ⟨rv, ⟨V.ref (s.heap.objs.size + 1), H', I3, rfl, q3⟩⟩
    | next => exact False.elim hq'
    | brk => exact False.elim hq'
    | cont => exact False.elim hq'
theorem pe_makeS (M : Mk X.K C f) (F : FnOk X.prog X.w X.K X.mg X.base CX k f fd ps sp) (hr : Room (k + 1) X.A) (hg : Gl X x) (hm : X.mg x = some (.ref C)) (hb : Binds X.K fd ps []) (hx : ∀ σ, PassesAt CX X σ (E σ))
    (ha : PA X (e :: es) t) (hdb : (x == ("__debug__" : Str)) = false := by decide) (he : starEach (e :: es) X.env = (false, eval e X.env) :: starEach es X.env := by rfl) (hpl : (backTo pos (starEach es X.env)).any (·.1) = false := by rfl) :
    PE X (.Call (.Name x p) (e :: es) [] pos) (tMakeS C sp E t) := by
  refine ⟨fun pins s σ H Q I h => ?_⟩
  refine wpAny_Call_Name_kw (ld_glob I hg hm ?_ hdb)
  refine PySem.W.callWith_K (h₀ := X.base) I.ok.mod.kin M.kp (thn (ha.run pos pins s σ H _ I h) fun us s1 ⟨vs, H1, I1, r, q⟩ => ⟨I1.kIn, ?_⟩) he hpl
  exact run_makeS M F hr hb (hx σ) I1 r q
end
/-- a comprehension over a text, sign by sign -/
theorem lcStr {z : Str} {g : TG} {tt : TT} {te : TE} {ws : List Nat} {ρ : L2.St} {G : Hp} {D : Addr} {R : Hp → Prop} (P : Nat → Hp → Prop) (first : P 0 (upd G D (.lst [])))
    (step : ∀ i c H, z.cps[i]? = some c → P i H → g (.str ⟨#[c]⟩) (wipe ρ ws) H fun σ2 H2 => wipe σ2 ws = wipe ρ ws ∧ tt σ2 H2 fun b H3 => if b = true then te σ2 H3 fun y H4 => ∃ acc, H4 D = some (.lst acc) ∧ acc.length < sizeLine ∧ P (i + 1) (upd H4 D (.lst (acc ++ [y]))) else P (i + 1) H3)
    (last : ∀ H, P z.cps.size H → R H) :
    ∃ W : Nat → Nat → Hp → Prop, (∃ m, W 0 m (upd G D (.lst []))) ∧ ∀ i m H, W i m H → ((Its z).stop i H ∧ R H) ∨ ((Its z).go i H ∧ ∃ Nx : Hp → Prop, (∀ H', Nx H' → ∃ m', m' < m ∧ W (i + 1) m' H') ∧ ∀ x H', (Its z).yld i H x H' →
      g x (wipe ρ ws) H' fun σ2 H2 => wipe σ2 ws = wipe ρ ws ∧ tt σ2 H2 fun b H3 => if b = true then te σ2 H3 fun y H4 => ∃ acc, H4 D = some (.lst acc) ∧ acc.length < sizeLine ∧ Nx (upd H4 D (.lst (acc ++ [y]))) else Nx H3) := by
  refine ⟨fun i m H => m = z.cps.size - i ∧ i ≤ z.cps.size ∧ P i H, ⟨_, rfl, Nat.zero_le _, first⟩, ?_⟩
  rintro i m H ⟨rfl, hi, p⟩
  rcases Nat.lt_or_ge i z.cps.size with lt | ge
  · refine .inr ⟨lt, P (i + 1), fun H' p' => ⟨_, Nat.sub_succ_lt_self _ _ lt, rfl, lt, p'⟩, fun x H' ⟨e, c, ec, ex⟩ => ?_⟩
    subst e ex
    exact step i c _ ec p
  · exact .inl ⟨ge, last H (Nat.le_antisymm hi ge ▸ p)⟩
/-- values whose class is a built-in one -/
inductive Bv (H : Hp) : V → String → Prop where
  | non : Bv H .non "NoneType"
  | bl (b : Bool) : Bv H (.bl b) "bool"
  | int (i : Int) : Bv H (.int i) "int"
  | str (z : Str) : Bv H (.str z) "str"
  | lst {a : Addr} {xs : List V} (e : H a = some (.lst xs)) : Bv H (.ref a) "list"
  | tup {a : Addr} {xs : List V} (e : H a = some (.tup xs)) : Bv H (.ref a) "tuple"
  | dK {a : Addr} {kvs : List (Key × V)} (e : H a = some (.dK kvs)) : Bv H (.ref a) "dict"
theorem Bv.ty {K : PySem.W.Frag} {H : Hp} {x : V} {T : String} (h : Bv H x T) : TyX K H x (.type T) := by
  cases h with
  | non => exact .base .non
  | bl b => exact .base (.bl b)
  | int i => exact .base (.int i)
  | str z => exact .base (.str z)
  | lst e => exact .base (.lst e)
  | tup e => exact .base (.tup e)
  | dK e => exact .base (.dK e)
theorem Bv.same {H H' : Hp} {x : V} {T : String} (s : Same H H') (h : Bv H x T) : Bv H' x T := by
  cases h with
  | non => exact .non
  | bl b => exact .bl b
  | int i => exact .int i
  | str z => exact .str z
  | lst e => exact .lst (s _ _ e)
  | tup e => exact .tup (s _ _ e)
  | dK e => exact .dK (s _ _ e)
def isI : V → Bool
  | .int _ => true
  | _ => false
def isB : V → Bool
  | .bl _ => true
  | _ => false
def isS : V → Bool
  | .str _ => true
  | _ => false
/-- isinstance against a built-in class, by the value -/
theorem Bv.kits {K : PySem.W.Frag} {H : Hp} {x : V} {T : String} (h : Bv H x T) : PySem.W.kitOne K (.type T) (.type "str") = some (isS x) ∧ PySem.W.kitOne K (.type T) (.type "bool") = some (isB x) ∧ PySem.W.kitOne K (.type T) (.type "int") = some (isI x || isB x) := by
  cases h with
  | non => exact ⟨kit_ty (r := false) (by decide +kernel), kit_ty (r := false) (by decide +kernel), kit_ty (r := false) (by decide +kernel)⟩
  | bl b => exact ⟨kit_ty (r := false) (by decide +kernel), kit_ty (r := true) (by decide +kernel), kit_ty (r := true) (by decide +kernel)⟩
  | int i => exact ⟨kit_ty (r := false) (by decide +kernel), kit_ty (r := false) (by decide +kernel), kit_ty (r := true) (by decide +kernel)⟩
  | str z => exact ⟨kit_ty (r := true) (by decide +kernel), kit_ty (r := false) (by decide +kernel), kit_ty (r := false) (by decide +kernel)⟩
  | lst e => exact ⟨kit_ty (r := false) (by decide +kernel), kit_ty (r := false) (by decide +kernel), kit_ty (r := false) (by decide +kernel)⟩
  | tup e => exact ⟨kit_ty (r := false) (by decide +kernel), kit_ty (r := false) (by decide +kernel), kit_ty (r := false) (by decide +kernel)⟩
  | dK e => exact ⟨kit_ty (r := false) (by decide +kernel), kit_ty (r := false) (by decide +kernel), kit_ty (r := false) (by decide +kernel)⟩
end Tw
/-! Tw: a method called by keywords alone. -/
namespace Tw
open PySem PySem.Spec PyProof.Rows L2
section
variable {K : PySem.W.Frag} {x qual : Str} {params : Arguments} {body : List Stmt} {scope : Scope} {f : Addr} {fd : FuncData} {ps : List Str}
theorem kbNone (F : FunD K x qual params body scope [] [] f fd) (n : Nat) (ks : List Str)
    (h : ∀ (kV doc pm : Value) (an : Option Addr) (cdv ct : Value) (us ws : List Value), us.length = n → ws.length = ks.length → bindArgs (PySem.W.fnOf x qual params body scope .none kV doc pm an cdv ct) ⟨us, ks.zip ws⟩ = pure (ps.zip (us ++ ws))) :
    KBn K fd ps n ks (fun us ws => us ++ ws) (fun vs zs => vs ++ zs) := by
  obtain ⟨oc, od, dV, kV, doc, pm, an, cdv, ct, osl, rfl, lk, hcd, hD, hK⟩ := F.ex
  rcases hD with ⟨_, rfl⟩ | ⟨e, _⟩
  · exact ⟨fun s us ws X l1 l2 => .of_eq (h kV doc pm an cdv ct us ws l1 l2), fun r1 r2 => r1.append r2⟩
  · exact absurd rfl e
end
/-- o.m(k = v, ..) -/
def tMethN (C : Addr) (m : Str) (n : Nat) (sp : Sp) (gV : List V → List V → List V) (E : XK) (ta : TE) (tk : TA) : TE := fun σ H Q => ta σ H fun x H1 => ∃ (a dx : Addr) (fs : List (Str × V)), x = .ref a ∧ H1 a = some (.ins C dx fs) ∧ fs.lookup m = none ∧
  tk σ H1 fun zs H2 => zs.length = n ∧ sp (gV [.ref a] zs) H2 Q E
section
variable {X : Cx} {CX : CXT} {k : Nat} {f C : Addr} {fd : FuncData} {ps ks : List Str} {sp : Sp} {E : XK} {m : Str} {pos apos : Pos} {o : Expr} {kws : List Keyword} {ta : TE} {tk : TA} {g : List Value → List Value → List Value} {gV : List V → List V → List V}
theorem pe_methN {pl : Sem Bool} (he : PE X o ta) (c : Cls X.K C) (hm : Meth X.K C m f) (F : FnOk X.prog X.w X.K X.mg X.base CX k f fd ps sp) (hr : Room k X.A) (hb : KBn X.K fd ps 1 ks g gV) (hx : Passes CX X E) (hkw : PK X kws tk)
    (hall : (backToKw pos (keywordEach kws X.env)).all (·.1.isSome) = true := by rfl) (hks : (backToKw pos (keywordEach kws X.env)).filterMap (·.1) = ks := by rfl)
    (hpl : ((backTo pos (starEach [] X.env)).any (·.1) || (backToKw pos (keywordEach kws X.env)).any (·.1.isNone)) = false := by rfl)
    (ht : eval (.Call (.Attribute o m apos) [] kws pos) X.env = (do
      let v ← eval o X.env
      standAt apos.atName
      let (h, front) ← holding [v] (getMethod v m pl)
      callWith pos h front (backTo pos (starEach [] X.env)) (backToKw pos (keywordEach kws X.env))) := by rfl) :
    PE X (.Call (.Attribute o m apos) [] kws pos) (tMethN C m ks.length sp gV E ta tk) := by
  refine ⟨fun pins s σ H Q I h => ?_⟩
  refine PySem.W.methodCall_KW (pl := pl) (thn (he.run pins s σ H _ I h) fun u s1 ⟨x, H1, I1, rx, a, dx, fs, ex, ea, l, q⟩ => ?_) ht
  subst ex
  cases (show u = Value.ref a from rx)
  refine getmeth_ok I1 ea c hm l ?_
  refine PySem.W.callWith_KW0 (h₀ := X.base) (first := [.ref a]) I1.ok.mod.kin hm.kp hall (thn (hkw.run pos pins s1 σ H1 _ I1 q) fun ws s2 ⟨zs, H2, I2, rz, l2, q2⟩ => ⟨I2.kIn, ?_⟩) hpl
  rw [hks]
  exact run_fnN (us := [.ref a]) (vs := [.ref a]) F hr hb hx I2 (.cons rx .nil) rz rfl l2 q2
end
/-- == by an own __eq__, where the context is a comprehension's: what it knows is named -/
theorem eqOwnK {X : Cx} {CX : CXT} {k : Nat} {f C : Addr} {fd : FuncData} {ps : List Str} {sp : Sp} {E : XK} (P : Program) (w : World) (K : PySem.W.Frag) (mg : Str → Option Value) (base : Heap) (hs : PySem.W.findIn K (.ref C) "__eq__" = some (some (.ref f))) (hf : PySem.W.isFn K (.ref f) = true)
    (F : FnOk P w K mg base CX k f fd ps sp) (hr : Room k X.A) (hb : Binds K fd ps []) (hx : Passes CX X E) (e1 : X.prog = P := by rfl) (e2 : X.w = w := by rfl) (e3 : X.K = K := by rfl) (e4 : X.mg = mg := by rfl) (e5 : X.base = base := by rfl) : OpR X (compareOp .Eq) (rEqOwn K C sp E) := by
  subst e1 e2 e3 e4 e5
  exact op_eqOwn hs hf F hr hb hx
/-! lists of bools -/
theorem dpBools {K : PySem.W.Frag} {H : Hp} : ∀ bs : List Bool, DpAll K H (bs.map V.bl) (bs.map PyData.bool)
  | [] => .nil
  | b :: bs => .cons (.bl b) (dpBools bs)
theorem layBools : ∀ bs : List Bool, PyData.canLayAll0 (bs.map PyData.bool) = true ∧ PyData.depthAll (bs.map PyData.bool) = 0
  | [] => ⟨rfl, rfl⟩
  | b :: bs => by
    obtain ⟨h1, h2⟩ := layBools bs
    constructor
    · simp only [List.map_cons, PyData.canLayAll0, PyData.canLay0, h1, Bool.and_self]
    · simp only [List.map_cons, PyData.depthAll, PyData.depth, h2, Nat.max_self]
theorem shapedBools (bs : List Bool) : SeqAt.shaped (.list (bs.map PyData.bool)) = true := by
  obtain ⟨h1, h2⟩ := layBools bs
  simp [SeqAt.shaped, PyData.canLay0, PyData.depth, h1, h2]
theorem eqvBools (bs : List Bool) : PyData.eqv (.list (bs.map PyData.bool)) (.list (bs.map PyData.bool)) = true :=
  SeqAt.eqv_refl _ (by simpa [PyData.canLay0] using (layBools bs).1)
theorem ifSame {d : PyData} {A B : Prop} (h : PyData.eqv d d = true) (b : B) : if (!PyData.eqv d d) = true then A else B := by
  rw [h]
  exact iteF b
theorem mildBools : ∀ bs : List Bool, mildAll (bs.map PyData.bool) = true ∧ capAll (bs.map PyData.bool) ≤ 100 * bs.length
  | [] => ⟨rfl, Nat.le_refl _⟩
  | b :: bs => by
    obtain ⟨h1, h2⟩ := mildBools bs
    constructor
    · simp only [List.map_cons, mildAll, mild, h1, Bool.and_self]
    · simp only [List.map_cons, capAll, List.length_cons]
      have : cap (.bool b) ≤ 90 := by cases b <;> decide
      omega
end Tw
/-! Tw: enumerate over a list, a tuple, an own object that gives a tuple's iterator. -/
namespace Tw
open PySem PySem.Spec PyProof.Rows L2
/-- pairs (number, item), the items as G tells them -/
def IteG (G : Hp → List V → Prop) : It := ⟨fun i H => ∃ (xs : List V) (x : V), G H xs ∧ xs[i]? = some x,
  fun i H v H' => ∃ (T : Addr) (x : V), v = .ref T ∧ H T = none ∧ H' = upd H T (.tup [.int (i : Nat), x]) ∧ ∀ xs, G H xs → xs[i]? = some x, fun i H => ∃ xs : List V, G H xs ∧ i = xs.length⟩
theorem turnL {P : Program} {w : World} {K : PySem.W.Frag} {elts : List Expr} {kk : Nat} {tpos : Pos} (a e it : Addr) :
    Turn P w K (.Tuple elts kk tpos) (IteG fun H xs => SqL K H a xs) [e, it] e (fun i h => (∃ old, IsEnum h e it ((i : Nat) : Int) old) ∧ h.IsListIter it a i ∧ e ≠ it) :=
  let T := turn_enum (P := P) (w := w) (K := K) (elts := elts) (kk := kk) (tpos := tpos) a e it
  ⟨T.mem, T.obj, T.keep, T.item, fun X h1 h2 h3 h4 i pins s σ H E I hf st ⟨xs, g, hx⟩ => T.done X h1 h2 h3 h4 i pins s σ H E I hf st ⟨xs, g, Nat.le_of_eq hx.symm⟩, T.self⟩
theorem turnT {P : Program} {w : World} {K : PySem.W.Frag} {elts : List Expr} {kk : Nat} {tpos : Pos} (a e it : Addr) :
    Turn P w K (.Tuple elts kk tpos) (IteG fun H xs => SqT K H a xs) [e, it] e (fun i h => (∃ old, IsEnum h e it ((i : Nat) : Int) old) ∧ h.IsTupleIter it a i ∧ e ≠ it) where
  mem := List.mem_cons_self
  obj := fun i h ⟨⟨old, he⟩, ⟨o, ho, hc, hd⟩, _⟩ b hb => by
    rcases List.mem_cons.mp hb with z | z
    · exact z ▸ ⟨_, he, fun v q => nomatch q⟩
    · rw [List.mem_singleton.mp z]
      exact ⟨o, ho, fun v q => by
        rw [hd] at q
        cases q⟩
  keep := fun i h h' ⟨⟨old, he⟩, hi, hne⟩ k => ⟨⟨old, k e List.mem_cons_self _ he⟩, hi.at fun o q => k it (List.mem_cons_of_mem _ List.mem_cons_self) o q, hne⟩
  item := by
    intro X e1 e2 e3 hc i pins s σ H E I hf ⟨⟨old, he⟩, hit, hne⟩ ⟨xs, x, hq, hx⟩
    subst e1 e2 e3
    obtain ⟨its, rv, p, hz⟩ := I.tuple hq
    obtain ⟨u, hu, ru⟩ := rv.get hx
    have hel : e < s.heap.objs.size := Heap.lt_size he
    have hil : it < s.heap.objs.size := by
      obtain ⟨_, q, _⟩ := hit
      exact Heap.lt_size q
    have hta : a ≠ it := fun z => by
      obtain ⟨o, q, c, _⟩ := hit
      obtain ⟨o', q', c', _⟩ := p
      rw [z, q] at q'
      cases q'
      rw [c] at c'
      exact absurd c' (by decide)
    have hea : e ≠ a := fun z => by
      obtain ⟨o', q', c', _⟩ := p
      rw [← z, show s.heap.get? e = _ from he] at q'
      cases q'
      exact absurd (Value.type.inj c') (by decide)
    have hlt : i < its.toArray.size := by
      rw [List.size_toArray]
      exact (List.getElem?_eq_some_iff.mp hu).1
    refine wpAny_pyNext_enum_itemC (Draws.tuple (A := X.A.in1) (I.ok.hd hc) it a hta its.toArray) he ⟨hit, p⟩ hlt hne (fun hm => ?_) fun y h1 tk py ho st1 hT hsz hk => ?_
    · rcases List.mem_cons.mp hm with z | z
      · exact hne z
      · exact hea (List.mem_singleton.mp z)
    · have ey : y = u := by
        have q : its.toArray[i]? = some y := py
        rw [List.getElem?_toArray, hu] at q
        exact (Option.some.inj q).symm
      subst ey
      refine ⟨_, rfl, wpAny_letOwnedTupleGo_enum (s := { s with heap := h1, toks := tk + 1 }) ho fun h2 he2 sb => ?_⟩
      have hT2 : h2.get? s.heap.objs.size = some { cls := .type "tuple", data := .seq #[.int i tk, y] } := (sb.2 _ (Nat.ne_of_gt hel)).trans hT
      have ok : ObjOk X.prog X.w (upd H s.heap.objs.size (.tup [.int (i : Nat), x])) h2 s.heap.objs.size (.tup [.int (i : Nat), x]) := ⟨(by show 2 ≤ sizeLine; decide), [.int i tk, y], .cons ⟨_, rfl⟩ (.cons ru .nil), ⟨_, hT2, rfl, _, rfl⟩⟩
      have I1 : Inv X pins σ (upd H s.heap.objs.size (.tup [.int (i : Nat), x])) { s with heap := h2, toks := tk + 1 } := I.turnedNew (ch := [e, it]) (fun b ob hb q => by
        have b1 : b ≠ e := fun z => hb (z ▸ List.mem_cons_self)
        have b2 : b ≠ it := fun z => hb (z ▸ List.mem_cons_of_mem _ List.mem_cons_self)
        exact (sb.2 b b1).trans (hk b ob b1 b2 q)) hf (Nat.le_refl _) ok
      refine ⟨.ref s.heap.objs.size, _, I1, rfl, ⟨_, x, rfl, I.hok.fresh (Nat.le_refl _), rfl, fun ys hy => I.tuple_inj hy hq ▸ hx⟩, ⟨⟨y, ?_⟩, st1.1.at fun o q => (sb.2 it hne.symm).trans q, hne⟩, fun b hb => ?_⟩
      · rw [show ((i + 1 : Nat) : Int) = (i : Int) + 1 by omega]
        exact he2
      · have lt : b < s.heap.objs.size := by
          rcases List.mem_cons.mp hb with z | z
          · exact z ▸ hel
          · exact (List.mem_singleton.mp z) ▸ hil
        rw [upd_ne (Nat.ne_of_lt lt)]
        exact (hf b hb).1
  done := by
    intro X e1 e2 e3 hc i pins s σ H E I hf ⟨⟨old, he⟩, hit, hne⟩ ⟨xs, hq, hx⟩
    subst e1 e2 e3
    obtain ⟨its, rv, p, hz⟩ := I.tuple hq
    have hta : a ≠ it := fun z => by
      obtain ⟨o, q, c, _⟩ := hit
      obtain ⟨o', q', c', _⟩ := p
      rw [z, q] at q'
      cases q'
      rw [c] at c'
      exact absurd c' (by decide)
    have hn : its.toArray.size = i := by
      rw [List.size_toArray, ← rv.length, hx]
    have D := Draws.tuple (prog := X.prog) (w := X.w) (A := X.A.in1) (I.ok.hd hc) it a hta its.toArray
    rw [hn] at D
    obtain ⟨f0, f1, f2, f3, f4, f5⟩ := hf it (List.mem_cons_of_mem _ List.mem_cons_self)
    exact wpAny_pyNext_enum_endD D he ⟨hit, p⟩ fun h' eb => ⟨rfl, I.turned (t' := s.toks) (fun b o hb q => eb b o hb q) f0 f1 f3 f4 f5⟩
  self := fun A i s Q E ⟨⟨_, he⟩, _⟩ h => wpAny_pyIter_enum he h
end Tw
/-! Tw: walking an own object whose __iter__ returns a tuple's iterator. -/
namespace Tw
open PySem PySem.Spec PyProof.Rows L2 ItX
/-- at it: an iterator of the tuple at t, before its item i -/
def ItT (t it : Addr) (i : Nat) : HO := .ext fun h => h.IsTupleIter it t i
theorem itT_ok {P : Program} {w : World} {H : Hp} {h : Heap} {t it : Addr} {i : Nat} (e : h.IsTupleIter it t i) : ObjOk P w H h it (ItT t it i) := ⟨e, ⟨_, e.choose_spec.1⟩, fun h1 h2 q k => q.at fun o z => k _ z⟩
theorem itT_get {X : Cx} {pins : List (Addr × Obj)} {σ : L2.St} {H : Hp} {s : Shared} {t it : Addr} {i : Nat} (I : Inv X pins σ H s) (e : H it = some (ItT t it i)) : s.heap.IsTupleIter it t i := (I.hok it _ e).1
/-- iter(t), t a tuple: a young iterator -/
def rIterT (K : PySem.W.Frag) (n : Nat) : List V → Hp → VK → Prop := fun xs H Q => ∃ (t : Addr) (zs : List V), xs = [.ref t] ∧ SqT K H t zs ∧ ∀ it H', H it = none → n ≤ it → Same H H' → H' it = some (ItT t it 0) → Q (.ref it) H'
theorem call_iterT {X : Cx} : CallR X (.builtin "iter") (rIterT X.K X.s_0.heap.objs.size) := by
  intro pins s σ H xs us Q I r h
  obtain ⟨t, zs, rfl, hq, q⟩ := h
  obtain ⟨u, rfl, ru⟩ := vals1 r
  cases (show u = Value.ref t from ru)
  obtain ⟨its, rv, pl, hz⟩ := I.tuple hq
  refine Calls.call_function_entry (by decide +kernel) (by decide +kernel) PySem.W.kdk_entry_iter (PySem.W.kdk_args_iter _) ?_
  unfold Builtin.«iter»
  refine wpAny_bind (m := someArgs "iter" 1 2 _) (wpAny_of_eq (a := [Value.ref t]) (by first | rfl | kernel_rfl!) ?_)
  show wpAny _ _ (pyIter (.ref t) >>= _) _ _ _
  refine wpAny_bind (wpAny_pyIter_tuple (show s.heap.IsTuple t its.toArray from pl) (wpAny_pure ⟨_, rfl, ?_⟩))
  have hf := I.hok.fresh (Nat.le_refl s.heap.objs.size)
  have new : (s.heap.push { cls := .type "tuple_iterator", data := .fields #[.ref t, .int 0 0] }).IsTupleIter s.heap.objs.size t 0 := ⟨_, Heap.get?_push_size _ rfl, rfl, rfl⟩
  exact ⟨.ref s.heap.objs.size, upd H s.heap.objs.size (ItT t s.heap.objs.size 0), I.laid (t' := s.toks) (fun b u e => Heap.get?_push_of_some _ e) (Nat.le_refl _) (itT_ok new), rfl, q _ _ hf I.sz (same_new hf) upd_same⟩
/-- a def's promise that knows how many objects there are when it is called -/
structure FnN (P : Program) (w : World) (K : PySem.W.Frag) (mg : Str → Option Value) (base : Heap) (CX : CXT) (k : Nat) (f : Addr) (fd : FuncData) (ps : List Str) (sp : Nat → Sp) : Prop where
  len : ∀ n vs H Q E, sp n vs H Q E → vs.length = ps.length
  run : ∀ (A : Around) (outer : List Env) (s : Shared) (H : Hp) (args : Args) (us : List Value) (vs : List V) (Q : VK) (E : XK), Room k A → Env0 P w K mg base A outer s H →
    BindsTo s fd args (ps.zip us) → Vals vs us → sp s.heap.objs.size vs H Q E → codeAny (model P w) A (.call (.ref f) args) (CR CX outer P w H s Q E) s
theorem _root_.L2.FunD.okN {P : Program} {w : World} {K : PySem.W.Frag} {mg : Str → Option Value} {base : Heap} {CX : CXT} {x qual : Str} {params : Arguments} {body : List Stmt} {scope : Scope} {dvs : List V} {kws : List (Str × V)} {f : Addr} {fd : FuncData} {N ps : List Str} {k : Nat} {sp : Nat → Sp}
    (F : FunD K x qual params body scope dvs kws f fd) (S : FnScope N ps scope) (len : ∀ n vs H Q E, sp n vs H Q E → vs.length = ps.length)
    (hbody : ∀ (cdv : Value) (A : Around) (outer : List Env) (s : Shared) (H : Hp) (vs : List V) (Q : VK) (E : XK), Room k (A.deeper (envOfC qual scope s.heap.objs.size f cdv)) → sp s.heap.objs.size vs H Q E →
      ∃ t, PSs (cxOf CX P w K mg base N qual scope f cdv A outer s H E) body t ∧ t { nx := fun _ H' => Q .non H', rt := Q } (L2.start N vs) H) : FnN P w K mg base CX (k + 1) f fd ps sp := by
  obtain ⟨oc, od, dV, kV, doc, pm, an, cdv, ct, osl, rfl, lk, hcd, _, _⟩ := F.ex
  refine ⟨len, fun A outer s H args us vs Q E hr e0 hb r hsp => ?_⟩
  have at0 : ∀ b o, base.get? b = some o → s.heap.get? b = some o := fun b o e => (e0.bs b o e).1
  have hkind : ∀ y ∈ ps.zip us, scope.names.lookup y.1 = some .local ∨ (scope.names.lookup y.1 = some .cell ∧ ((cellsFrom (s.heap.objs.size + 1) scope.names []).lookup y.1).isSome = true) := by
    rintro ⟨n, v⟩ hy
    rcases S.par n (List.of_mem_zip hy).1 with q | q
    · exact .inl q
    · exact .inr ⟨q, PySem.W.cellsFrom_some _ _ _ (.inl q)⟩
  refine codeAny_call_function hr.depth ((e0.mod.kin.keeps at0) _ _ lk) rfl S.co S.gen rfl (PySem.W.codeRec_of (e0.mod.kin.keeps at0) hcd) (hb _ _ _ _ ?_)
  refine wpAny_newFunctionEnv_cells S.kind hkind fun env he s1 x => ?_
  subst he
  refine ⟨(e0.mod.nolimit.keeps at0).keeps x.toInCall.keep, codeAny_func ?_⟩
  obtain ⟨t, ht, hq⟩ := hbody cdv A outer s H vs Q E (hr.deeper _) hsp
  refine wpAny_mono (ht.run [] s1 (L2.start N vs) H _ (inv_start S hr.hd e0 (len _ _ _ _ _ hsp) r x) hq) (fun fl s' hs => ?_) fun e s' hs => hs
  cases fl with
  | ret u =>
    obtain ⟨v, σ', H', J, rv, q⟩ := hs
    exact ⟨v, H', J.os, J.bare, J.base, J.hok, rv, q⟩
  | next =>
    obtain ⟨σ', H', J, q⟩ := hs
    exact ⟨.non, H', J.os, J.bare, J.base, J.hok, rfl, q⟩
  | brk => exact hs.elim fun _ z => z.elim fun _ z => z.2.elim
  | cont => exact hs.elim fun _ z => z.elim fun _ z => z.2.elim
section
variable {X : Cx} {CX : CXT} {k : Nat} {f C : Addr} {fd : FuncData} {ps : List Str} {E : XK} {pins : List (Addr × Obj)} {σ : L2.St} {H : Hp} {s : Shared}
/-- what an own __iter__ promises that returns iter(self.f), a tuple: f's items are told by ITS -/
def spIter (C : Addr) (ff : Str) : Nat → Sp := fun n vs H Q _ => ∃ (a dx t : Addr) (fs : List (Str × V)) (zs : List V), vs = [.ref a] ∧ H a = some (.ins C dx fs) ∧ fs.lookup ff = some (.ref t) ∧ H t = some (.tup zs) ∧ ∀ it H', H it = none → n ≤ it → Same H H' → H' it = some (ItT t it 0) → Q (.ref it) H'
theorem iter_ownT {A' : Around} {ff : Str} {a dx t : Addr} {fs : List (Str × V)} {zs : List V} {R : Value → Shared → Prop} (hs : PySem.W.findIn X.K (.ref C) "__iter__" = some (some (.ref f))) (hf : PySem.W.isFn X.K (.ref f) = true) (F : FnN X.prog X.w X.K X.mg X.base CX k f fd ps (spIter C ff)) (hr : Room k A')
    (he : Env0 X.prog X.w X.K X.mg X.base A' X.stack s H) (hb : Binds X.K fd ps []) (hx : Passes CX X E) (I : Inv X pins σ H s) (ha : H a = some (.ins C dx fs)) (hl : fs.lookup ff = some (.ref t)) (ht : H t = some (.tup zs))
    (q : ∀ it s' H', Inv X pins σ H' s' → H it = none → Same H H' → H' it = some (ItT t it 0) → X.s_0.heap.objs.size ≤ it → R (.ref it) s') : wpAny (model X.prog X.w) A' (pyIter (.ref a)) R X.xe s := by
  obtain ⟨od, ox, J⟩ := inst_at I ha
  obtain ⟨m0, hF⟩ := I.fr
  refine PySem.W.owit_iter hF I.ok.mod.kin J hs hf ?_
  have hsp : spIter C ff s.heap.objs.size [.ref a] H (fun v H' => ∃ it, v = .ref it ∧ s.heap.objs.size ≤ it ∧ H it = none ∧ Same H H' ∧ H' it = some (ItT t it 0)) E := ⟨a, dx, t, fs, zs, rfl, ha, hl, ht, fun it H' h0 hn sm e => ⟨it, rfl, hn, h0, sm, e⟩⟩
  have len := F.len _ _ _ _ _ hsp
  have b := hb s [.ref a] I.kIn (by simpa using len)
  rw [List.append_nil] at b
  refine wpAny_call (codeAny_mono (F.run A' X.stack s H ⟨[.ref a], []⟩ [.ref a] [.ref a] _ E hr he b (.cons rfl .nil) hsp) fun r s' hq => ?_)
  match r, hq with
  | .error e, hq => exact hx pins σ H s e s' I hq
  | .ok (.ret u), hq =>
    obtain ⟨v, H', I', rv, it, ev, hn, h0, sm, e⟩ := I.after hq
    subst ev
    cases (show u = Value.ref it from rv)
    have hit := itT_get I' e
    show PySem.W.OwitIt _ _ _ _ _ _
    unfold PySem.W.OwitIt
    exact wpAny_specialOf hit.typeIs PySem.F.slot_tuple_iterator_next.lookup (q it s' H' I' h0 sm e (Nat.le_trans I.sz hn))
theorem drop_same {H H1 : Hp} {it : Addr} (h0 : H it = none) (sm : Same H H1) : Same H (dropH H1 it) := fun b o e => by
  rw [dropH_ne (ne_of_none e h0)]
  exact sm b o e
/-- for x in o -/
def iOwn (K : PySem.W.Frag) (C : Addr) (ff : Str) (te : TE) : TI := fun σ H R => te σ H fun x H1 => ∃ (a dx t : Addr) (fs : List (Str × V)) (zs : List V), x = .ref a ∧ H1 a = some (.ins C dx fs) ∧ fs.lookup ff = some (.ref t) ∧ H1 t = some (.tup zs) ∧ ∀ H2, Same H1 H2 → R (Itt K t) H2
theorem pi_own {tg e : Expr} {te : TE} {ff : Str} (hs : PySem.W.findIn X.K (.ref C) "__iter__" = some (some (.ref f))) (hf : PySem.W.isFn X.K (.ref f) = true) (F : FnN X.prog X.w X.K X.mg X.base CX k f fd ps (spIter C ff)) (hr : Room k X.A) (hb : Binds X.K fd ps []) (hx : Passes CX X E) (he : PE X e te) : PI X tg e (iOwn X.K C ff te) := by
  refine ⟨fun pins s σ H R I h => thn (he.run pins s σ H _ I h) fun u s1 hh => ?_⟩
  obtain ⟨x, H1, I1, rx, a, dx, t, fs, zs, ex, ha, hl, ht, q⟩ := hh
  subst ex
  cases (show u = Value.ref a from rx)
  refine iter_ownT hs hf F hr I1.env0 hb hx I1 ha hl ht fun it s2 H2 I2 h0 sm e2 hn => ?_
  have e3 := e2
  unfold ItT at e3
  refine ⟨it, [it], _, _, dropH H2 it, rfl, inv_drop I2 e3, turn_tuple t it, itT_get I2 e2, fun b hb => ?_, q _ (drop_same h0 sm)⟩
  rw [List.mem_singleton.mp hb]
  exact inv_fp I2 e2 hn
end
section
variable {prog : Program} {w : World} {A : Around} {E : Value → Shared → Prop} {s : Shared}
/-- the enumerate object behind iter(v) -/
def enumO (it : Addr) : Obj := { cls := .type "enumerate", data := .fields #[.none, .bool false, .ref it, rawInt 0, .none, .none] }
set_option maxHeartbeats 4000000 in
theorem meets_enumI (v : Value) : MeetsIn prog w (Builtin.«enumerate.__new__» ⟨[.type "enumerate", v], []⟩) (fun B R s => wpAny (model prog w) B.in1 (pyIter v) (fun u s' => ∃ it, u = .ref it ∧ R (.ok (.ret (.ref s'.heap.objs.size))) { s' with heap := s'.heap.push (enumO it) }) (fun e s' => R (.error e) s') s) :=
  .of_wp fun B R s h => by
    have hsub := sub_enumerate
    have q1 : ∀ {Q : Value → Shared → Prop}, (∀ it s', R (.ok (.ret (.ref s'.heap.objs.size))) { s' with heap := s'.heap.push (enumO it) } → Q (.ref it) s') → wpAny (model prog w) B.in1 (pyIter v) Q (fun e s' => R (.error e) s') s := fun hQ => wpAny_mono h (fun u s' ⟨it, eu, q⟩ => eu ▸ hQ it s' q) fun _ _ z => z
    obtain ⟨hp, g, d, tk, os⟩ := s
    wp_walk using q1
    refine wpAny_stack_any fun st => wpAny_pure ?_
    split
    · rename_i c _ _ _ _ _
      cases (c == Value.type "enumerate")
      · wp_walk using q1
        rintro it ⟨hp2, g2, d2, tk2, os2⟩ r
        wp_walk
        exact ⟨_, rfl, r⟩
      · wp_walk using q1
        rintro it ⟨hp2, g2, d2, tk2, os2⟩ r
        wp_walk
        exact ⟨_, rfl, r⟩
    · wp_walk using q1
      rintro it ⟨hp2, g2, d2, tk2, os2⟩ r
      wp_walk
      exact ⟨_, rfl, r⟩
theorem enum_call {v : Value} {Q : Value → Shared → Prop} (hi : wpAny (model prog w) A.in1.in1 (pyIter v) (fun u s' => ∃ it, u = .ref it ∧ Q (.ref s'.heap.objs.size) { s' with heap := s'.heap.push (enumO it) }) E s) : wpAny (model prog w) A (call (.type "enumerate") [v]) Q E s :=
  callType_newIn PySem.F.called_enumerate (by decide) (PySem.F.typeCall_enumerate_1 _) (PySem.F.newCall_enumerate_1 _) (fun obj => PySem.F.args_object_init_2 obj _) PySem.F.entry_enumerate_new (meets_enumI v)
    (wpAny_mono hi (fun u s' ⟨it, eu, q⟩ => ⟨it, eu, ⟨_, Heap.get?_push_size _ rfl, rfl⟩, q⟩) fun _ _ z => z)
end
section
variable {X : Cx} {CX : CXT} {k : Nat} {f C : Addr} {fd : FuncData} {ps : List Str} {E : XK}
/-- for i, x in enumerate(v): v a list, a tuple, an own object -/
def iEnumA (K : PySem.W.Frag) (C : Addr) (ff : Str) (ta : TA) : TI := fun σ H R => ta σ H fun vs H1 => ∃ a, vs = [.ref a] ∧ (((∃ xs, SqL K H1 a xs) ∧ R (IteG fun H xs => SqL K H a xs) H1) ∨ ((∃ xs, SqT K H1 a xs) ∧ R (IteG fun H xs => SqT K H a xs) H1) ∨
  ∃ (dx t : Addr) (fs : List (Str × V)) (zs : List V), H1 a = some (.ins C dx fs) ∧ fs.lookup ff = some (.ref t) ∧ H1 t = some (.tup zs) ∧ ∀ H2, Same H1 H2 → R (IteG fun H xs => SqT K H t xs) H2)
theorem pi_enumA {e : Expr} {ta : TA} {ff : Str} {p pos tpos : Pos} {elts : List Expr} {kk : Nat} (hs : PySem.W.findIn X.K (.ref C) "__iter__" = some (some (.ref f))) (hf : PySem.W.isFn X.K (.ref f) = true) (F : FnN X.prog X.w X.K X.mg X.base CX k f fd ps (spIter C ff)) (hr : Room (k + 2) X.A) (hb : Binds X.K fd ps []) (hx : Passes CX X E)
    (hg : Gl X "enumerate") (hm : X.mg "enumerate" = none) (ha : PA X [e] ta) (hst : starEach [e] X.env = [(false, eval e X.env)] := by rfl) : PI X (.Tuple elts kk tpos) (.Call (.Name "enumerate" p) [e] [] pos) (iEnumA X.K C ff ta) := by
  refine ⟨fun pins s σ H R I h => Call_ (ld_blt I hg hm boot_enumerate (PyProof.Rows.callWith_type1 (thn (ha.run pos pins s σ H _ I h) fun us s1 ⟨vs, H1, I1, r1, q1⟩ => ?_) hst rfl))⟩
  obtain ⟨a, ex, q1⟩ := q1
  subst ex
  obtain ⟨u, rfl, ru⟩ := vals1 r1
  cases (show u = Value.ref a from ru)
  refine enum_call ?_
  have push : ∀ {s2 : Shared} {it : Addr}, (∀ b o, s2.heap.get? b = some o → (s2.heap.push (enumO it)).get? b = some o) := fun b o z => Heap.get?_push_of_some _ z
  have isE : ∀ {s2 : Shared} {it : Addr}, IsEnum (s2.heap.push (enumO it)) s2.heap.objs.size it ((0 : Nat) : Int) .none := fun {s2 it} => Heap.get?_push_size _ rfl
  rcases q1 with ⟨⟨xs, hq⟩, q⟩ | ⟨⟨xs, hq⟩, q⟩ | ⟨dx, t, fs, zs, h1, h2, h3, q⟩
  · obtain ⟨its, rv, pl, hz⟩ := I1.list hq
    refine wpAny_pyIter_list pl.isList ⟨_, rfl, ?_⟩
    have I2 : Inv X pins σ H1 { s1 with heap := s1.heap.push { cls := .type "list_iterator", data := .fields #[.ref a, .int 0 0] } } := I1.kept (t' := s1.toks) fun b o z => Heap.get?_push_of_some _ z
    have I3 : Inv X pins σ H1 { s1 with heap := (s1.heap.push { cls := .type "list_iterator", data := .fields #[.ref a, .int 0 0] }).push (enumO s1.heap.objs.size) } := I2.kept (t' := s1.toks) push
    have hz2 : (s1.heap.push { cls := .type "list_iterator", data := .fields #[.ref a, .int 0 0] }).objs.size = s1.heap.objs.size + 1 := Heap.size_push ..
    have hne : (s1.heap.push { cls := .type "list_iterator", data := .fields #[.ref a, .int 0 0] }).objs.size ≠ s1.heap.objs.size := by omega
    have itr : ((s1.heap.push { cls := .type "list_iterator", data := .fields #[.ref a, .int 0 0] }).push (enumO s1.heap.objs.size)).IsListIter s1.heap.objs.size a 0 := ⟨_, Heap.get?_push_of_some _ (Heap.get?_push_size _ rfl), rfl, rfl⟩
    refine wpAny_pyIter_enum isE ⟨_, [_, s1.heap.objs.size], _, _, H1, rfl, I3, turnL a _ s1.heap.objs.size, ⟨⟨.none, isE⟩, itr, hne⟩, fun b hb => ?_, q⟩
    have lt : s1.heap.objs.size ≤ b := by
      rcases List.mem_cons.mp hb with z | z
      · rw [z]
        show s1.heap.objs.size ≤ (s1.heap.push _).objs.size
        omega
      · exact Nat.le_of_eq (List.mem_singleton.mp z).symm
    exact I1.fpOk lt (I1.hok.fresh lt)
  · obtain ⟨its, rv, pl, hz⟩ := I1.tuple hq
    refine wpAny_pyIter_tuple (show s1.heap.IsTuple a its.toArray from pl) ⟨_, rfl, ?_⟩
    have I2 : Inv X pins σ H1 { s1 with heap := s1.heap.push { cls := .type "tuple_iterator", data := .fields #[.ref a, .int 0 0] } } := I1.kept (t' := s1.toks) fun b o z => Heap.get?_push_of_some _ z
    have I3 : Inv X pins σ H1 { s1 with heap := (s1.heap.push { cls := .type "tuple_iterator", data := .fields #[.ref a, .int 0 0] }).push (enumO s1.heap.objs.size) } := I2.kept (t' := s1.toks) push
    have hz2 : (s1.heap.push { cls := .type "tuple_iterator", data := .fields #[.ref a, .int 0 0] }).objs.size = s1.heap.objs.size + 1 := Heap.size_push ..
    have hne : (s1.heap.push { cls := .type "tuple_iterator", data := .fields #[.ref a, .int 0 0] }).objs.size ≠ s1.heap.objs.size := by omega
    have itr : ((s1.heap.push { cls := .type "tuple_iterator", data := .fields #[.ref a, .int 0 0] }).push (enumO s1.heap.objs.size)).IsTupleIter s1.heap.objs.size a 0 := ⟨_, Heap.get?_push_of_some _ (Heap.get?_push_size _ rfl), rfl, rfl⟩
    refine wpAny_pyIter_enum isE ⟨_, [_, s1.heap.objs.size], _, _, H1, rfl, I3, turnT a _ s1.heap.objs.size, ⟨⟨.none, isE⟩, itr, hne⟩, fun b hb => ?_, q⟩
    have lt : s1.heap.objs.size ≤ b := by
      rcases List.mem_cons.mp hb with z | z
      · rw [z]
        show s1.heap.objs.size ≤ (s1.heap.push _).objs.size
        omega
      · exact Nat.le_of_eq (List.mem_singleton.mp z).symm
    exact I1.fpOk lt (I1.hok.fresh lt)
  · have hr1 : Room (k + 1) X.A.in1 := Room.in1 hr
    refine iter_ownT hs hf F hr1.in1 I1.env0.in1.in1 hb hx I1 h1 h2 h3 fun it s2 H2 I2 h0 sm e2 hn => ⟨it, rfl, ?_⟩
    have I3 : Inv X pins σ H2 { s2 with heap := s2.heap.push (enumO it) } := I2.kept (t' := s2.toks) push
    have e3 := e2
    unfold ItT at e3
    have hit : it < s2.heap.objs.size := by
      obtain ⟨_, z, _⟩ := itT_get I2 e2
      exact Heap.lt_size z
    have hne : s2.heap.objs.size ≠ it := Nat.ne_of_gt hit
    refine wpAny_pyIter_enum isE ⟨s2.heap.objs.size, [s2.heap.objs.size, it], _, _, dropH H2 it, rfl, inv_drop I3 e3, turnT t s2.heap.objs.size it, ⟨⟨.none, isE⟩, (itT_get I3 e2), hne⟩, fun b hb => ?_, q _ (drop_same h0 sm)⟩
    rcases List.mem_cons.mp hb with z | z
    · rw [z]
      exact I2.fpOk (Nat.le_refl _) (by
        rw [dropH_ne hne]
        exact I2.hok.fresh (Nat.le_refl _))
    · rw [List.mem_singleton.mp z]
      exact inv_fp I3 e2 hn
end
/-- the turns of an enumerate -/
theorem for_enum {G : Hp → List V → Prop} {xs : List V} {g : TG} {tb : TS} {D : Ends} {ρ : L2.St} {G0 : Hp} (P : Nat → L2.St → Hp → Prop) (first : P 0 ρ G0) (still : ∀ i σ H, i ≤ xs.length → P i σ H → G H xs)
    (step : ∀ i x T σ H H', xs[i]? = some x → P i σ H → H T = none → Same H H' → H' T = some (.tup [.int (i : Nat), x]) → g (.ref T) σ H' fun σ2 H2 => tb { D with nx := P (i + 1), ct := P (i + 1), bk := D.nx } σ2 H2) (last : ∀ σ H, P xs.length σ H → D.nx σ H) :
    ∃ W : Nat → Nat → L2.St → Hp → Prop, (∃ m, W 0 m ρ G0) ∧ ∀ i m σ H, W i m σ H → ((IteG G).stop i H ∧ D.nx σ H) ∨ ((IteG G).go i H ∧ ∃ N : L2.St → Hp → Prop, (∀ σ' H', N σ' H' → ∃ m', m' < m ∧ W (i + 1) m' σ' H') ∧
      ∀ x H', (IteG G).yld i H x H' → g x σ H' fun σ2 H2 => tb { D with nx := N, ct := N, bk := D.nx } σ2 H2) := by
  refine ⟨fun i m σ H => m = xs.length - i ∧ i ≤ xs.length ∧ P i σ H, ⟨_, rfl, Nat.zero_le _, first⟩, ?_⟩
  rintro i m σ H ⟨rfl, hi, p⟩
  have gx := still i σ H hi p
  rcases Nat.lt_or_ge i xs.length with lt | ge
  · refine .inr ⟨⟨xs, xs[i], gx, List.getElem?_eq_getElem lt⟩, P (i + 1), fun σ' H' p' => ⟨_, Nat.sub_succ_lt_self _ _ lt, rfl, lt, p'⟩, fun x H' ⟨T, y, ex, hT, eH, hy⟩ => ?_⟩
    subst ex eH
    exact step i y T σ H _ (hy xs gx) p hT (same_new hT) upd_same
  · have e : i = xs.length := Nat.le_antisymm hi ge
    subst e
    exact .inl ⟨⟨xs, gx, rfl⟩, last σ H p⟩
end Tw
/-! Tw: repr of any data, get of a written dict, isinstance against a tuple of classes, tuples of the written part, the hook with tables. -/
namespace Tw
open PySem PySem.Spec PyProof.Rows L2 He
section
variable {X : Cx}
/-- repr(x), x any data -/
def rReprV (K : PySem.W.Frag) : List V → Hp → VK → Prop := fun xs H Q => ∃ (v : V) (d : PyData), xs = [v] ∧ Dx K H v d ∧ mild d = true ∧ d.depth ≤ 64 ∧ cap d ≤ 16777216 ∧ Q (.str d.shown) H
theorem call_reprV (hG : NoG X.A) (hu : X.A.units + 70 < cLine) : CallR X (.builtin "repr") (rReprV X.K) := by
  intro pins s σ H xs us Q I r h
  obtain ⟨v, d, rfl, hd, hm, hdp, hc, q⟩ := h
  have hl := Nat.le_trans (shown_le d hm) (show cap d ≤ sizeLine by rw [sizeLine_eq]; exact hc)
  cases v with
  | ref a => exact call_repr hG hu pins s σ H _ us Q I r ⟨a, d, rfl, hd, hm, hdp, hc, q⟩
  | non =>
    cases hd
    obtain ⟨u, rfl, ru⟩ := vals1 r
    cases ru
    exact PySem.P.repr_of_none ⟨.str _, H, I.tok _, ⟨_, rfl⟩, by simpa only [PyData.shown] using q⟩
  | bl b =>
    cases hd
    obtain ⟨u, rfl, ru⟩ := vals1 r
    cases ru
    exact PySem.P.repr_of_bool ⟨.str _, H, I.tok _, ⟨_, rfl⟩, by simpa only [PyData.shown] using q⟩
  | int i =>
    cases hd
    obtain ⟨u, rfl, t, rfl⟩ := vals1 r
    exact PySem.P.repr_of_int (by simpa [mild] using hm) ⟨.str _, H, I.tok _, ⟨_, rfl⟩, by simpa only [PyData.shown] using q⟩
  | str x =>
    cases hd
    obtain ⟨u, rfl, t, rfl⟩ := vals1 r
    exact PySem.P.repr_of_str ⟨.str _, H, I.tok _, ⟨_, rfl⟩, by simpa only [PyData.shown] using q⟩ (by simpa only [PyData.shown] using hl)
  | _ => cases hd
/-- isinstance(x, (C, D, ..)), x anything that is known, errors too -/
def rIsAT (K : PySem.W.Frag) : List V → Hp → VK → Prop := fun xs H Q => ∃ (x : V) (tp : Addr) (cs : List V) (t : Value) (us : List Value) (b : Bool), xs = [x, .ref tp] ∧ H tp = some (.tup cs) ∧ Paired ClsV cs us ∧
  (TyX K H x t ∨ ∃ (a C : Addr) (d : Addr) (fs : List (Str × V)), x = .ref a ∧ t = .ref C ∧ IsX H a C (some d) ∧ IsXd H d fs ∧ XC K C ∧ XO K) ∧ PySem.W.kitAny K t us = some b ∧ Q (.bl b) H
theorem call_isAT : CallR X (.builtin "isinstance") (rIsAT X.K) := by
  intro pins s σ H xs us Q I r h
  obtain ⟨x, tp, cs, t, ws, b, rfl, hT, k, ty, e, q⟩ := h
  obtain ⟨u1, u2, rfl, r1, r2⟩ := vals2 r
  cases (show u2 = Value.ref tp from r2)
  obtain ⟨_, its, rv, o, h1, h2, n, h3⟩ := (show ObjOk X.prog X.w H s.heap tp (.tup cs) from I.hok tp _ hT)
  have e3 := ClsV.all k rv
  subst e3
  obtain ⟨oc, od, dt, sl⟩ := o
  simp only at h2 h3
  subst h2 h3
  rcases ty with ty | ⟨a, C, d, fs, rfl, rfl, ia, idd, T, O⟩
  · obtain ⟨P, Z, p, hx⟩ := kit_of I r1 ty
    exact PySem.W.kia_tup Z I.kIn p h1 e hx fun tk => ⟨.bl b, H, I.tok tk, rfl, q⟩
  · cases (show u1 = Value.ref a from r1)
    obtain ⟨oe, vs, ho, hz, hdt⟩ := ia.get I.hok
    obtain ⟨mA, hns, hr⟩ := idd.get I.hok
    obtain ⟨od, hod, hlk⟩ := lookIn_ns hns
    have J : PySem.W.InstAt s.heap a oe C (some od) := ⟨ho, hz.1, by unfold PySem.W.notCls; rw [hdt] <;> rfl, by rw [hz.2]; exact hod⟩
    exact PySem.W.kia_tup (PySem.W.kitx_exc (od := some od) (oexC_cl T.ox) T.ga T.gg T.ox.exC T.ca O.hn O.ht T.cm) I.kIn J h1 e (fun z => nomatch z) fun tk => ⟨.bl b, H, I.tok tk, rfl, q⟩
end
/-- d.get(y, x), d a dict of the top with text keys -/
def tKGet2 (K : PySem.W.Frag) (d : Addr) (td ty tx : TE) : TE := fun σ H Q => td σ H fun x H1 => x = .ref d ∧ ty σ H1 fun y H2 => ∃ z, y = .str z ∧ tx σ H2 fun q H3 => ∃ (r : Option Value) (v : V), PySem.W.nsIn K d z = some r ∧ (∀ u, RelV q u → RelV v (r.getD u)) ∧ Q v H3
section
variable {X : Cx} {o e f : Expr} {apos cpos : Pos} {td ty tx : TE} {d : Addr} {es : Array DictEntry} {n : Nat}
theorem pe_kget2 (D : KDict X.K X.w d es n) (ho : PE X o td) (he : PE X e ty) (hf : PE X f tx) (m : M2 X o "get" apos e f cpos) : PE X (.Call (.Attribute o "get" apos) [e, f] [] cpos) (tKGet2 X.K d td ty tx) := by
  refine ⟨fun pins s σ H Q I h => ?_⟩
  refine wpAny_Call_method m.base m.few m.line PySem.F.plainAttrs_dict PySem.F.slot_dict_get PySem.F.type_dict_get (thn (ho.run pins s σ H _ I h) fun u s1 ⟨x, H1, I1, rx, ex, q1⟩ => ?_)
  subst ex
  obtain rfl : u = Value.ref d := rx
  refine ⟨kd_type D I1, fun b q => by cases q; exact ⟨_, I1.kIn _ _ D.at_, rfl⟩, ?_⟩
  rw [m.trees]
  refine Calls.callWith_builtin rfl (Calls.evalArgs_plain (Calls.spliced_cons (thn (he.run pins s1 σ H1 _ I1 q1) fun iv s2 ⟨y, H2, I2, ry, z, ez, q2⟩ =>
    Calls.spliced_cons (thn (hf.run pins s2 σ H2 _ I2 q2) fun fv s3 ⟨q, H3, I3, rq, r, v, er, hv, q3⟩ => Calls.spliced_nil ?_))))
  subst ez
  obtain ⟨t, rfl⟩ := ry
  refine call_meetsIn PySem.F.slot_dict_get (kd_type D I3) PySem.F.entry_dict_get (PySem.F.args_dict_get_3 _ _ _) (meets_dict_get_default (PySem.strKind X.prog X.w) d (PySem.strKind_is X.prog X.w z t) D.low fv) ⟨_, PySem.W.mapOf_K (prog := X.prog) I3.kIn D.at_ D.lit, ?_⟩
  rw [PySem.W.find_K D.at_ er]
  exact ⟨v, H3, I3.tok _, hv _ rq, q3⟩
end
/-! ### tuples of the written part -/
def tupB (K : Fg) (a : Addr) (vs : List V) : Bool := match K.lookup a with
  | some ⟨.type t, _, .seq its _, _⟩ => decide (t = "tuple") && (decide (its.size ≤ 1000) && relAll vs its.toList)
  | _ => false
theorem tupB_ok {K : Fg} {a : Addr} {vs : List V} (h : tupB K a vs = true) (H : Hp) : SqT K H a vs := by
  unfold tupB at h
  cases e : K.lookup a with
  | none =>
    rw [e] at h
    cases h
  | some o =>
    rw [e] at h
    obtain ⟨oc, od, dt, sl⟩ := o
    cases oc with
    | type t =>
      cases dt with
      | seq its n =>
        obtain ⟨h1, h⟩ := ba h
        obtain ⟨h2, h3⟩ := ba h
        have e1 := of_decide_eq_true h1
        subst e1
        exact .inr ⟨_, its, n, e, rfl, rfl, Nat.le_trans (of_decide_eq_true h2) (by decide), relAll_ok h3⟩
      | _ => cases h
    | _ => cases h
/-- C.f, a constant read off the class -/
def cvalB (K : Fg) (C : Addr) (f : Str) (v : V) : Bool := match PySem.W.findCls K (.ref C) (.type "type") f with
  | some (.val u) => relB v u
  | _ => false
theorem cvalB_ok {K : Fg} {C : Addr} {f : Str} {v : V} (h : cvalB K C f v = true) : ∃ u, ClX.CVal K C (.type "type") f v u := by
  unfold cvalB at h
  split at h
  · rename_i u e
    exact ⟨u, e, relB_ok h⟩
  · cases h
def creadB (K : Fg) (C : Addr) : Bool := PySem.W.readsIn K C (.type "type") && eqO (PySem.W.specialIn K (.ref C) "__getattribute__") (some (some (.builtin "type.__getattribute__")))
theorem creadB_ok {K : Fg} {C : Addr} (h : creadB K C = true) : ClX.CRead K C (.type "type") := by
  obtain ⟨h1, h2⟩ := ba h
  exact ⟨h1, eqO_ok h2⟩
/-! ### the hook with tables -/
abbrev AlYT : Type := AlD × List (Option (List (Option (Str × Int))))
def obsYT (fs : Fz) (fn : List DefD) (ts : List Tab) (K : Fg) : AlYT := (obsY fs fn K, ts.map fun t => dicW K (t.1 K))
def valYT (fn : List DefD) (ts : List Tab) (w : World) : AlYT := (valD fn, ts.map fun t => some (keysIn w.params t.2))
def obsYTG (n : Nat) (fs : Fz) (fn : List DefD) (ts : List Tab) (g : Addr → Option Obj) : AlYT := obsYT fs fn ts (frG g (asD g n ++ [cStatics]))
def SaysYT (fs : Fz) (fn : List DefD) (ts : List Tab) (w : World) (K : Fg) : Prop := obsYT fs fn ts K = valYT fn ts w
def hookYT (n : Nat) (fs : Fz) (fn : List DefD) (ts : List Tab) : PySem.W.Hook where
  α := AlYT
  obs := fun s => obsYTG n fs fn ts s.heap.get?
  val := fun w => valYT fn ts w
  says := fun w h => ∃ K : Fg, K.In h ∧ SaysYT fs fn ts w K
  of := fun _ _ e => ⟨_, frG_in, e⟩
  keeps := fun _ _ _ ⟨K, hK, c⟩ k => ⟨K, PySem.W.Frag.In.keeps hK k, c⟩
theorem obsYTG_eq {n : Nat} {fs : Fz} {fn : List DefD} {ts : List Tab} {g : Addr → Option Obj} {s : Shared} (h : ∀ a, g a = s.heap.get? a) : obsYTG n fs fn ts g = (hookYT n fs fn ts).obs s := by
  have e : g = s.heap.get? := funext h
  rw [e] <;> rfl
section
variable {fs : Fz} {fn : List DefD} {ts : List Tab} {w : World} {K : Fg}
theorem SaysYT.y (c : SaysYT fs fn ts w K) : SaysY fs fn K := congrArg (fun z : AlYT => z.1) c
theorem SaysYT.tab (c : SaysYT fs fn ts w K) (i : Nat) {t : Tab} (h : ts[i]? = some t := by rfl) : ∃ es n, KDict K w (t.1 K) es n := by
  have e : ts.map (fun t => dicW K (t.1 K)) = ts.map fun t => some (keysIn w.params t.2) := congrArg (fun z : AlYT => z.2) c
  have e2 : (ts.map fun t => dicW K (t.1 K))[i]? = (ts.map fun t => some (keysIn w.params t.2))[i]? := by rw [e]
  rw [List.getElem?_map, List.getElem?_map, h] at e2
  exact dicW_ok (Option.some.inj e2)
end
/-! ### small texts -/
/-- signs below 128, at most n -/
def Small (n : Nat) (z : Str) : Prop := z.length ≤ n ∧ ∀ c ∈ z.cps.toList, c < 128
theorem Small.app {m n : Nat} {x y : Str} (hx : Small m x) (hy : Small n y) : Small (m + n) (x ++ y) := by
  refine ⟨by rw [Str.length_append]; exact Nat.add_le_add hx.1 hy.1, fun c hc => ?_⟩
  rw [show (x ++ y).cps.toList = TL.tl (x ++ y) from rfl, TL.tl_append] at hc
  rcases List.mem_append.mp hc with q | q
  · exact hx.2 c q
  · exact hy.2 c q
theorem Small.cut {n : Nat} {x : Str} (hx : Small n x) (lo hi : Option Int) : Small n (cutS x lo hi) := by
  refine ⟨Nat.le_trans (cutS_length x lo hi) hx.1, fun c hc => hx.2 c ?_⟩
  unfold cutS at hc
  exact List.mem_of_mem_drop (List.mem_of_mem_take (by simpa using hc))
theorem Small.mono {m n : Nat} {x : Str} (hx : Small m x) (h : m ≤ n) : Small n x := ⟨Nat.le_trans hx.1 h, hx.2⟩
theorem Small.mild {n : Nat} {x : Str} (hx : Small n x) : Tw.mild (.str x) = true := by
  unfold Tw.mild
  rw [List.all_eq_true]
  exact fun c hc => decide_eq_true (Nat.lt_trans (hx.2 c hc) (by decide))
def smallB (n : Nat) (z : Str) : Bool := decide (z.length ≤ n) && z.cps.toList.all fun c => decide (c < 128)
theorem smallB_ok {n : Nat} {z : Str} (h : smallB n z = true) : Small n z := by
  obtain ⟨h1, h2⟩ := ba h
  exact ⟨of_decide_eq_true h1, fun c hc => of_decide_eq_true (List.all_eq_true.mp h2 c hc)⟩
theorem Small.strOk {n : Nat} {z : Str} (h : Small n z) : PyData.strOk z = true := by
  unfold PyData.strOk
  rw [← Array.all_toList, List.all_eq_true]
  exact fun c hc => decide_eq_true (Nat.lt_trans (h.2 c hc) (by decide))
/-! ### lists of texts -/
theorem dxStrs {K : PySem.W.Frag} {H : Hp} : ∀ zs : List Str, DxAll K H (zs.map V.str) (zs.map PyData.str)
  | [] => .nil
  | z :: zs => .cons (.str z) (dxStrs zs)
theorem dxBools {K : PySem.W.Frag} {H : Hp} : ∀ zs : List Bool, DxAll K H (zs.map V.bl) (zs.map PyData.bool)
  | [] => .nil
  | z :: zs => .cons (.bl z) (dxBools zs)
theorem dpStrs {K : PySem.W.Frag} {H : Hp} : ∀ zs : List Str, DpAll K H (zs.map V.str) (zs.map PyData.str)
  | [] => .nil
  | z :: zs => .cons (.str z) (dpStrs zs)
theorem mildStrs {n : Nat} : ∀ zs : List Str, (∀ z ∈ zs, Small n z) → mildAll (zs.map .str) = true ∧ capAll (zs.map .str) ≤ (12 * n + 100) * zs.length
  | [], _ => ⟨rfl, Nat.le_refl _⟩
  | z :: zs, h => by
    obtain ⟨h1, h2⟩ := mildStrs zs fun y hy => h y (List.mem_cons_of_mem _ hy)
    have h3 := h z List.mem_cons_self
    constructor
    · simp only [List.map_cons, mildAll, h3.mild, h1, Bool.and_self]
    · simp only [List.map_cons, capAll, List.length_cons]
      have h4 : cap (.str z) ≤ 12 * n + 90 := by
        have := h3.1
        simp only [cap]
        omega
      rw [Nat.mul_add]
      omega
theorem depthStrs : ∀ zs : List Str, PyData.depthAll (zs.map PyData.str) = 0
  | [] => rfl
  | z :: zs => by simp only [List.map_cons, PyData.depthAll, PyData.depth, depthStrs zs, Nat.max_self]
/-- what repr asks of a list of small texts -/
theorem reprStrs {n : Nat} (zs : List Str) (h : ∀ z ∈ zs, Small n z) (hn : n ≤ 1000) (hz : zs.length ≤ 1000) : mild (.list (zs.map .str)) = true ∧ (PyData.list (zs.map .str)).depth ≤ 64 ∧ cap (.list (zs.map .str)) ≤ 16777216 := by
  obtain ⟨h1, h2⟩ := mildStrs zs h
  have h3 : (12 * n + 100) * zs.length ≤ 12100 * 1000 := Nat.mul_le_mul (by omega) hz
  refine ⟨by simpa [mild] using h1, by simp only [PyData.depth, depthStrs]; decide, ?_⟩
  simp only [cap]
  omega
end Tw
/-! ### the defs of a text, by their number -/
namespace Tw
open PySem PySem.Spec PyProof.Rows L2 He
abbrev DefsAt (fn : List DefD) (K : Fg) (fd : Nat → FuncData) : Prop := ∀ (i : Nat) (d : DefD), fn[i]? = some d → FunD K d.name d.qual d.params d.body d.scope (d.dvs K) (d.kws K) (fAd K d.at_) (fd i)
theorem SaysY.defs {fs : Fz} {fn : List DefD} {K : Fg} (c : SaysY fs fn K) {d0 : DefD} (h0 : fn[0]? = some d0) : ∃ fd : Nat → FuncData, DefsAt fn K fd := by
  obtain ⟨u0, _⟩ := c.def_ 0 h0
  have h : ∀ i : Nat, ∃ u : FuncData, ∀ d : DefD, fn[i]? = some d → FunD K d.name d.qual d.params d.body d.scope (d.dvs K) (d.kws K) (fAd K d.at_) u := fun i => by
    cases e : fn[i]? with
    | none => exact ⟨u0, fun d z => nomatch z⟩
    | some d =>
      obtain ⟨u, hu⟩ := c.def_ i e
      exact ⟨u, fun d' z => by
        cases z
        exact hu⟩
  exact ⟨fun i => Classical.choose (h i), fun i d e => Classical.choose_spec (h i) d e⟩
/-- what the walk asks of the written part and of the module's names -/
structure TxtB (fs : Fz) (fn : List DefD) (K : Fg) (mg : Str → Option Value) : Prop where
  c : SaysY fs fn K
  gl : ∀ x, (Fa.glo x).ok K = true → mg x = some (.ref (ga K x))
  fr : ∀ x, (Fa.free x).ok K = true → mg x = none
  nt : ∀ x i, (Fa.int x i).ok K = true → ∃ t, mg x = some (.int i t)
  tx : ∀ x z, (Fa.str x z).ok K = true → ∃ t, mg x = some (.str z t)
end Tw
namespace Tw
open PySem PySem.Spec PyProof.Rows L2 He
/-! ### errors of one field -/
/-- C.__init__ that stores one value -/
def spIni (C : Addr) (f : Str) : Sp := fun vs H Q _ => ∃ (a : Addr) (v : V), vs = [.ref a, v] ∧ H a = some (exo a C none) ∧ ∀ (d : Addr) (H' : Hp), H d = none → d ≠ a → H' a = some (exo a C (some d)) → H' d = some (exd d [(f, v)]) → But a H H' → Q .non H'
theorem bad_out {H : Hp} {C : Addr} {f : Str} {v : V} {Q : XK} {E : XK} (k : ∀ (d : Addr) (H' : Hp), Same H H' → H' d = some (.xd [(f, v)]) → Q (.ref C) (some d) H') :
    ([v] : List V).length ≤ 1000 ∧ ∀ a, H a = none → spIni C f (.ref a :: (([v] : List V) ++ [])) (upd H a (exo a C none)) (fun v H2 => v = .non ∧ ∃ (d : Addr) (fs : List (Str × V)), H2 a = some (exo a C (some d)) ∧ H2 d = some (exd d fs) ∧ H d = none ∧ Q (.ref C) (some d) (upd (del H2 a) d (.xd fs))) E := by
  refine ⟨(by show 1 ≤ 1000; decide), fun a ha => ⟨a, v, rfl, upd_same, fun d H' hd hda e1 e2 e3 => ?_⟩⟩
  rw [upd_ne hda] at hd
  refine ⟨rfl, d, _, e1, e2, hd, k d _ (fun b o hb => ?_) upd_same⟩
  have hba : b ≠ a := ne_of_none hb ha
  rw [upd_ne (ne_of_none hb hd), del_ne hba]
  exact e3 b o (by rw [upd_ne hba]; exact hb) hba
theorem same_but {H H1 H2 : Hp} {a : Addr} (s : Same H H1) (b : But a H1 H2) (h : H a = none) : Same H H2 := fun c o e => b c o (s c o e) (ne_of_none e h)
theorem same_made {H : Hp} {a dx : Addr} {o u : HO} (hd : H dx = none) (ha : H a = none) (hda : dx ≠ a) : Same H (upd (upd H dx o) a u) := (same_new hd).trans (same_new (by rw [upd_ne hda.symm]; exact ha))
theorem atI_gen {α : Type} {xs : List α} {i : Int} {v : α} (h0 : 0 ≤ i) (h : xs[i.toNat]? = some v) : atI xs i = some v := by
  have e : i = (i.toNat : Int) := (Int.toNat_of_nonneg h0).symm
  rw [e]
  exact atI_nat h
theorem dec_i {i j : Int} : decide (V.int i = V.int j) = decide (i = j) := by
  by_cases h : i = j
  · rw [h]
    simp
  · rw [decide_eq_false h, decide_eq_false fun z => h (V.int.inj z)]
theorem dec_s {i j : Str} : decide (V.str i = V.str j) = decide (i = j) := by
  by_cases h : i = j
  · rw [h]
    simp
  · rw [decide_eq_false h, decide_eq_false fun z => h (V.str.inj z)]
theorem inStrs (z : Str) : ∀ zs : List Str, inV (.str z) (zs.map V.str) = decide (z ∈ zs)
  | [] => rfl
  | y :: ys => by
    have ih := inStrs z ys
    unfold inV at ih ⊢
    rw [List.map_cons, List.any_cons, ih]
    show ((y == z) || _) = _
    by_cases h : y = z
    · subst h
      simp
    · rw [beq_eq_false_iff_ne.mpr h, Bool.false_or]
      exact decide_eq_decide.2 ⟨fun q => List.mem_cons_of_mem _ q, fun q => (List.mem_cons.mp q).resolve_left fun e => h e.symm⟩
theorem flatStrs : ∀ zs : List Str, (zs.map V.str).all flatV = true
  | [] => rfl
  | _ :: zs => by
    rw [List.map_cons, List.all_cons, flatStrs zs]
    rfl
end Tw
/-! Tw: own operators: x + y of one class, x * 3, 3 * x, -x, x += y. -/
namespace Tw
open PySem PySem.Spec PyProof.Rows L2 He
/-- the class at C answers to name by the def at f -/
structure OwnB (K : PySem.W.Frag) (C : Addr) (name : Str) (f : Addr) : Prop where
  self1 : PySem.W.selfFirst K C = true
  at_ : PySem.W.findIn K (.ref C) name = some (some (.ref f))
  fn : PySem.W.isFn K (.ref f) = true
def ownB (K : PySem.W.Frag) (x m : Str) : Bool := PySem.W.selfFirst K (ga K x) && (eqO (PySem.W.findIn K (.ref (ga K x)) m) (some (some (.ref (ma K (ga K x) m)))) && PySem.W.isFn K (.ref (ma K (ga K x) m)))
theorem ownB_ok {K : PySem.W.Frag} {x m : Str} (h : ownB K x m = true) : OwnB K (ga K x) m (ma K (ga K x) m) := by
  obtain ⟨h1, h⟩ := ba h
  obtain ⟨h2, h3⟩ := ba h
  exact ⟨h1, eqO_ok h2, h3⟩
section
variable {X : Cx} {CX : CXT} {k : Nat} {f C : Addr} {fd : FuncData} {ps : List Str} {sp : Sp} {E : XK} {op : Operator} {T : String}
/-- x op y, both of the class at C -/
def rBinOwn (C : Addr) (sp : Sp) (E : XK) : R2 := fun x y H Q => ∃ (a b dx dy : Addr) (fs gs : List (Str × V)), x = .ref a ∧ y = .ref b ∧ H a = some (.ins C dx fs) ∧ H b = some (.ins C dy gs) ∧ sp [x, y] H Q E
theorem op_binOwn (c : OwnB X.K C (PySem.dunder op.info.2) f) (F : FnOk X.prog X.w X.K X.mg X.base CX k f fd ps sp) (hr : Room k X.A) (hb : Binds X.K fd ps []) (hx : Passes CX X E) : OpR X (binaryOp op) (rBinOwn C sp E) := by
  intro pins s σ H x y v u Q I rx ry h
  obtain ⟨a, b, dx, dy, fs, gs, rfl, rfl, ea, eb, q⟩ := h
  cases (show v = Value.ref a from rx)
  cases (show u = Value.ref b from ry)
  obtain ⟨od, ox, J⟩ := inst_at I ea
  obtain ⟨od2, oy, J2⟩ := inst_at I eb
  obtain ⟨m, fr⟩ := I.fr
  refine PySem.W.binop_K fr I.ok.mod.kin J J2.type c.self1 c.at_ c.fn ?_
  refine wpAny_mono (run_fn (dvs := []) (ds := []) (us := [.ref a, .ref b]) (vs := [.ref a, .ref b]) F hr hb .nil hx I (.cons rfl (.cons rfl .nil)) q) (fun w s' z => ?_) fun _ _ x => x
  obtain ⟨z', H', I', rz, qz⟩ := z
  exact SlX.cmpback rz ⟨z', H', I', rz, qz⟩
/-- what is asked of a built-in class beside it -/
structure BinT (K : PySem.W.Frag) (C : Addr) (op : Operator) (T : String) : Prop where
  l : ∃ fo, PySem.W.findIn K (.type T) (PySem.dunder op.info.2) = some fo
  r : ∃ ro, PySem.W.findIn K (.type T) (PySem.dunderR op.info.2) = some ro
  sub : PySem.W.subIn K (.type T) (.ref C) = some false
  rc : ∃ rc, PySem.W.findIn K (.ref C) (PySem.dunderR op.info.2) = some rc ∧ (rc = none ∨ ∃ g : Addr, rc = some (.ref g))
def refOrNone : Option (Option Value) → Bool
  | some none => true
  | some (some (.ref _)) => true
  | _ => false
theorem refOrNone_ok {o : Option (Option Value)} (h : refOrNone o = true) : ∃ rc, o = some rc ∧ (rc = none ∨ ∃ g : Addr, rc = some (.ref g)) := by
  unfold refOrNone at h
  split at h
  · exact ⟨_, rfl, .inl rfl⟩
  · rename_i g
    exact ⟨_, rfl, .inr ⟨g, rfl⟩⟩
  · cases h
def binTB (K : PySem.W.Frag) (x : Str) (op : Operator) (T : String) : Bool := (PySem.W.findIn K (.type T) (PySem.dunder op.info.2)).isSome && ((PySem.W.findIn K (.type T) (PySem.dunderR op.info.2)).isSome && (decide (PySem.W.subIn K (.type T) (.ref (ga K x)) = some false) && refOrNone (PySem.W.findIn K (.ref (ga K x)) (PySem.dunderR op.info.2))))
theorem binTB_ok {K : PySem.W.Frag} {x : Str} {op : Operator} {T : String} (h : binTB K x op T = true) : BinT K (ga K x) op T := by
  obtain ⟨h1, h⟩ := ba h
  obtain ⟨h2, h⟩ := ba h
  obtain ⟨h3, h4⟩ := ba h
  exact ⟨Option.isSome_iff_exists.mp h1, Option.isSome_iff_exists.mp h2, of_decide_eq_true h3, refOrNone_ok h4⟩
/-- y is a value of the built-in class T -/
def ofT (H : Hp) (y : V) (T : String) : Prop := match y with
  | .int _ => T = "int"
  | .bl _ => T = "bool"
  | .str _ => T = "str"
  | _ => False
theorem ofT_type {H : Hp} {y : V} {u : Value} (r : RelV y u) (h : ofT H y T) : typeOf u = pure (.type T) := by
  cases y with
  | int i =>
    obtain ⟨t, rfl⟩ := r
    cases (show T = "int" from h)
    rfl
  | bl b =>
    cases (show u = Value.bool b from r)
    cases (show T = "bool" from h)
    rfl
  | str z =>
    obtain ⟨t, rfl⟩ := r
    cases (show T = "str" from h)
    rfl
  | _ => exact h.elim
/-- x op y, x of the class at C, y a number or a text -/
def rBinT (C : Addr) (T : String) (sp : Sp) (E : XK) : R2 := fun x y H Q => ∃ (a dx : Addr) (fs : List (Str × V)), x = .ref a ∧ H a = some (.ins C dx fs) ∧ ofT H y T ∧ sp [x, y] H Q E
theorem op_binT (c : OwnB X.K C (PySem.dunder op.info.2) f) (t : BinT X.K C op T) (F : FnOk X.prog X.w X.K X.mg X.base CX k f fd ps sp) (hr : Room k X.A) (hb : Binds X.K fd ps []) (hx : Passes CX X E) : OpR X (binaryOp op) (rBinT C T sp E) := by
  intro pins s σ H x y v u Q I rx ry h
  obtain ⟨a, dx, fs, rfl, ea, ht, q⟩ := h
  cases (show v = Value.ref a from rx)
  obtain ⟨od, ox, J⟩ := inst_at I ea
  obtain ⟨m, fr⟩ := I.fr
  obtain ⟨fo, h1⟩ := t.l
  obtain ⟨ro, h2⟩ := t.r
  obtain ⟨rc, h3, h4⟩ := t.rc
  refine PySem.W.ksp_binT fr I.ok.mod.kin J (ofT_type ry ht) c.self1 c.at_ c.fn h3 h4 h1 h2 t.sub ?_
  refine wpAny_mono (run_fn (dvs := []) (ds := []) (us := [.ref a, u]) (vs := [.ref a, y]) F hr hb .nil hx I (.cons rfl (.cons ry .nil)) q) (fun w s' z => ?_) fun _ _ x => x
  obtain ⟨z', H', I', rz, qz⟩ := z
  exact SlX.cmpback rz ⟨z', H', I', rz, qz⟩
/-- -x -/
def rNegOwn (C : Addr) (sp : Sp) (E : XK) : V → Hp → VK → Prop := fun x H Q => ∃ (a dx : Addr) (fs : List (Str × V)), x = .ref a ∧ H a = some (.ins C dx fs) ∧ sp [x] H Q E
theorem un_negOwn (c : OwnB X.K C "__neg__" f) (F : FnOk X.prog X.w X.K X.mg X.base CX k f fd ps sp) (hr : Room k X.A) (hb : Binds X.K fd ps []) (hx : Passes CX X E) : UnR X (unaryOp .USub) (rNegOwn C sp E) := by
  intro pins s σ H x v Q I rx h
  obtain ⟨a, dx, fs, rfl, ea, q⟩ := h
  cases (show v = Value.ref a from rx)
  obtain ⟨od, ox, J⟩ := inst_at I ea
  obtain ⟨m, fr⟩ := I.fr
  refine PySem.W.ksp_neg fr I.ok.mod.kin J c.at_ c.fn ?_
  exact run_fn (dvs := []) (ds := []) (us := [.ref a]) (vs := [.ref a]) F hr hb .nil hx I (.cons rfl .nil) q
/-- x op= y by an own in-place method -/
def rInOwn (C : Addr) (sp : Sp) (E : XK) : R2 := fun x y H Q => ∃ (a dx : Addr) (fs : List (Str × V)), x = .ref a ∧ H a = some (.ins C dx fs) ∧ sp [x, y] H Q E
theorem in_own (c : OwnB X.K C (PySem.dunderI op.info.2) f) (F : FnOk X.prog X.w X.K X.mg X.base CX k f fd ps sp) (hr : Room k X.A) (hb : Binds X.K fd ps []) (hx : Passes CX X E) : OpR X (inplaceOp op) (rInOwn C sp E) := by
  intro pins s σ H x y v u Q I rx ry h
  obtain ⟨a, dx, fs, rfl, ea, q⟩ := h
  cases (show v = Value.ref a from rx)
  obtain ⟨od, ox, J⟩ := inst_at I ea
  obtain ⟨m, fr⟩ := I.fr
  refine PySem.W.ksp_inplace fr I.ok.mod.kin J c.self1 c.at_ c.fn ?_
  refine wpAny_mono (run_fn (dvs := []) (ds := []) (us := [.ref a, u]) (vs := [.ref a, y]) F hr hb .nil hx I (.cons rfl (.cons ry .nil)) q) (fun w s' z => ?_) fun _ _ x => x
  obtain ⟨z', H', I', rz, qz⟩ := z
  exact SlX.cmpback rz ⟨z', H', I', rz, qz⟩
end
end Tw
namespace Tw
open PySem PySem.Spec PyProof.Rows L2 He
/-! ### a staticmethod called by its class -/
structure CSta (K : PySem.W.Frag) (C : Addr) (m : Str) (p g : Addr) : Prop where
  at_ : PySem.W.findCls K (.ref C) (.type "type") m = some (.get (.builtin "staticmethod.__get__") (.ref p) .none (.ref C))
  rc : ∃ rest, PySem.W.recIn K p "staticmethod" = some (.ref g :: rest)
  kp : PySem.W.keepIn K (.ref g) = true
/-- the def behind the record of C.m -/
def rcAt (K : PySem.W.Frag) (x m T : Str) : Addr := match PySem.W.recIn K (ma K (ga K x) m) T.toString with
  | some (.ref g :: _) => g
  | _ => 0
def cstaB (K : PySem.W.Frag) (x m : Str) : Bool := (match PySem.W.findCls K (.ref (ga K x)) (.type "type") m with
  | some (.get (.builtin b) (.ref p) .none (.ref C)) => decide (b = "staticmethod.__get__") && (decide (p = ma K (ga K x) m) && decide (C = ga K x))
  | _ => false) && ((match PySem.W.recIn K (ma K (ga K x) m) "staticmethod" with
  | some (.ref g :: _) => decide (g = rcAt K x m "staticmethod")
  | _ => false) && PySem.W.keepIn K (.ref (rcAt K x m "staticmethod")))
theorem cstaB_ok {K : PySem.W.Frag} {x m : Str} (h : cstaB K x m = true) : CSta K (ga K x) m (ma K (ga K x) m) (rcAt K x m "staticmethod") := by
  obtain ⟨h1, h⟩ := ba h
  obtain ⟨h2, h3⟩ := ba h
  refine ⟨?_, ?_, h3⟩
  · split at h1
    · rename_i b p C e
      obtain ⟨a1, a⟩ := ba h1
      obtain ⟨a2, a3⟩ := ba a
      rw [e, of_decide_eq_true a1, of_decide_eq_true a2, of_decide_eq_true a3]
    · cases h1
  · split at h2
    · rename_i g rest e
      exact ⟨rest, by rw [e, of_decide_eq_true h2]⟩
    · cases h2
section
variable {X : Cx} {CX : CXT} {k : Nat} {C p g : Addr} {fd : FuncData} {ps : List Str} {sp : Sp} {dvs : List V} {ds : List Value} {E : XK} {o e : Expr} {es : List Expr} {m : Str} {pos apos : Pos} {ta : TE} {t : TA} {pl : Sem Bool}
theorem typ_of {K : PySem.W.Frag} {mc : Value} (h : PySem.W.readsIn K C mc = true) : PySem.W.typeIn K (.ref C) = some mc := by
  simp only [PySem.W.readsIn, Bool.and_eq_true, beq_iff_eq] at h
  exact h.1.1.1.2
theorem pe_smeth (he : PE X o ta) (r : ClX.CRead X.K C (.type "type")) (c : CSta X.K C m p g) (F : FnOk X.prog X.w X.K X.mg X.base CX k g fd ps sp) (hr : Room k X.A) (hb : Binds X.K fd ps ds) (hd : Vals dvs ds) (hx : Passes CX X E) (ha : PA X (e :: es) t)
    (hst : starEach (e :: es) X.env = (false, eval e X.env) :: starEach es X.env := by rfl) (hpl : (backTo pos (starEach es X.env)).any (·.1) = false := by rfl)
    (ht : eval (.Call (.Attribute o m apos) (e :: es) [] pos) X.env = (do
      let ov ← eval o X.env
      standAt apos.atName
      let (f, first) ← holding [ov] (getMethod ov m pl)
      callWith pos f first (backTo pos (starEach (e :: es) X.env)) (backToKw pos (keywordEach [] X.env))) := by rfl) :
    PE X (.Call (.Attribute o m apos) (e :: es) [] pos) (fun σ H Q => ta σ H fun x H1 => x = .ref C ∧ t σ H1 fun vs H2 => sp (vs ++ dvs) H2 Q E) := by
  refine ⟨fun pins s σ H Q I h => ?_⟩
  refine PySem.W.methodCall_KW (pl := pl) (thn (he.run pins s σ H _ I h) fun u s1 ⟨x, H1, I1, rx, ex, q⟩ => ?_) ht
  subst ex
  obtain rfl : u = Value.ref C := rx
  obtain ⟨m', fr⟩ := I1.fr
  obtain ⟨rest, hp⟩ := c.rc
  refine PySem.W.method_cls I1.kIn r.ga (PySem.W.cls_sm fr I1.ok.mod.kin (typ_of r.rd) r.rd c.at_ hp rfl ?_)
  have I2 := I1.tok (s1.toks + 1)
  exact PySem.W.callWith_K (h₀ := X.base) I2.ok.mod.kin c.kp (thn (ha.run pos pins _ σ H1 _ I2 q) fun us s3 ⟨vs, H2, I3, rv, q2⟩ => ⟨I3.kIn, run_fn F hr hb hd hx I3 rv q2⟩) hst hpl
end
end Tw
/-! Tw: a staticmethod called within try; == of two lists of one and the same thing; slices and == within a comprehension. -/
namespace Tw
open PySem PySem.Spec PyProof.Rows L2 He
section
variable {X : Cx} {CX : CXT} {k : Nat} {C m' p g : Addr} {fd : FuncData} {ps : List Str} {sp : Sp} {E : L2.St → XK} {m : Str} {o e : Expr} {es : List Expr} {pos apos : Pos} {ta : TE} {t : TA}
theorem pe_smethS {pl : Sem Bool} (he : PE X o ta) (r : ClX.CRead X.K C (.type "type")) (c : CSta X.K C m p g) (F : FnOk X.prog X.w X.K X.mg X.base CX k g fd ps sp) (hr : Room k X.A) (hb : Binds X.K fd ps []) (hx : ∀ σ, PassesAt CX X σ (E σ)) (ha : PA X (e :: es) t)
    (hst : starEach (e :: es) X.env = (false, eval e X.env) :: starEach es X.env := by rfl) (hpl : (backTo pos (starEach es X.env)).any (·.1) = false := by rfl)
    (ht : eval (.Call (.Attribute o m apos) (e :: es) [] pos) X.env = (do
      let ov ← eval o X.env
      standAt apos.atName
      let (f, first) ← holding [ov] (getMethod ov m pl)
      callWith pos f first (backTo pos (starEach (e :: es) X.env)) (backToKw pos (keywordEach [] X.env))) := by rfl) :
    PE X (.Call (.Attribute o m apos) (e :: es) [] pos) (fun σ H Q => ta σ H fun x H1 => x = .ref C ∧ t σ H1 fun vs H2 => sp vs H2 Q (E σ)) := by
  refine ⟨fun pins s σ H Q I h => ?_⟩
  refine PySem.W.methodCall_KW (pl := pl) (thn (he.run pins s σ H _ I h) fun u s1 ⟨x, H1, I1, rx, ex, q⟩ => ?_) ht
  subst ex
  obtain rfl : u = Value.ref C := rx
  obtain ⟨m', fr⟩ := I1.fr
  obtain ⟨rest, hp⟩ := c.rc
  refine PySem.W.method_cls I1.kIn r.ga (PySem.W.cls_sm fr I1.ok.mod.kin (typ_of r.rd) r.rd c.at_ hp rfl ?_)
  have I2 := I1.tok (s1.toks + 1)
  exact PySem.W.callWith_K (h₀ := X.base) I2.ok.mod.kin c.kp (thn (ha.run pos pins _ σ H1 _ I2 q) fun us s3 ⟨vs, H2, I3, rv, q2⟩ => ⟨I3.kIn, L2.run_fnS F hr hb (hx σ) I3 rv q2⟩) hst hpl
end
section
variable {X : Cx}
/-- xs == ys: data, or two lists of one and the same object -/
def rEqSame (K : PySem.W.Frag) : R2 := fun x y H Q => rEqD K x y H Q ∨ ∃ a b c : Addr, x = .ref a ∧ y = .ref b ∧ H a = some (.lst [.ref c]) ∧ H b = some (.lst [.ref c]) ∧ Q (.bl true) H
theorem op_eqSame (hu : X.A.units + 64 < cLine) : OpR X (compareOp .Eq) (rEqSame X.K) := by
  intro pins s σ H x y v u Q I rx ry h
  rcases h with h | ⟨a, b, c, rfl, rfl, ha, hb, q⟩
  · exact op_eqD hu pins s σ H x y v u Q I rx ry h
  · obtain rfl : v = Value.ref a := rx
    obtain rfl : u = Value.ref b := ry
    obtain ⟨i1, r1, p1, _⟩ := I.list (SqL.of ha)
    obtain ⟨i2, r2, p2, _⟩ := I.list (SqL.of hb)
    obtain ⟨u1, rfl, e1⟩ := vals1 r1
    obtain ⟨u2, rfl, e2⟩ := vals1 r2
    cases (show u1 = Value.ref c from e1)
    cases (show u2 = Value.ref c from e2)
    refine SeqAt.eq_listAt (e := fun _ => true) p1.isList p2.isList rfl (by omega) (fun j h1 h2 => ?_) ?_
    · have e : j = 0 := by
        have : j < 1 := h1
        omega
      subst e
      exact SeqAt.EqAt.same _
    · exact ⟨.bl true, H, I, rfl, q⟩
end
theorem eqDK {X : Cx} (K : PySem.W.Frag) (hu : X.A.units + 64 < cLine) (h : X.K = K := by rfl) : OpR X (compareOp .Eq) (rEqD K) := by
  subst h
  exact op_eqD hu
/-- a[lo:hi] of a list, the new list in an abstract heap -/
def rSlN (K : PySem.W.Frag) : V → Option Int → Option Int → Hp → VK → Prop := fun x lo hi H Q => ∃ a xs, x = .ref a ∧ SqL K H a xs ∧ ∀ (p : Addr) (H' : Hp), H p = none → Same H H' → H' p = some (.lst (cutV xs lo hi)) → Q (.ref p) H'
theorem sl_listN {X : Cx} : SlR X (rSlN X.K) := by
  intro pins s σ H x v vl vu lo hi sl Q I rx hs pl pu h
  obtain ⟨a, xs, ex, hx, q⟩ := h
  exact sl_list pins s σ H x v vl vu lo hi sl Q I rx hs pl pu ⟨a, xs, ex, hx, fun p hp => q p _ hp (same_new hp) upd_same⟩
theorem slK {X : Cx} (K : PySem.W.Frag) (h : X.K = K := by rfl) : SlR X (rSlN K) := by
  subst h
  exact sl_listN
theorem But.free {p q : Addr} {H H' : Hp} (B : But p H H') (h : H' q = none) (hq : q ≠ p) : H q = none := by
  cases e : H q with
  | none => rfl
  | some o =>
    have z := B q o e hq
    rw [h] at z
    cases z
end Tw
/-! Tw: 3 * x, x of an own class. -/
namespace Tw
open PySem PySem.Spec PyProof.Rows L2 He
theorem int_mul_inst (a : Int) (t : Tok) (y : Addr) (ox : Obj) (hd : ox.data = .plain) :
    Meets (Builtin.«int.__mul__» ⟨[.int a t, .ref y], []⟩) (fun _ R s => s.heap.get? y = some ox ∧ R (.ok (.ret Value.notImplemented)) s) :=
  .of_wp fun prog w A R s h => by
    obtain ⟨hp, g, d, tk, os⟩ := s
    obtain ⟨hl, h⟩ := h
    obtain ⟨oc, od, dt, sl⟩ := ox
    cases hd
    wp_walk
    exact ⟨_, rfl, h⟩
theorem int_mul_dec {prog : Program} {w : World} {A : Around} {E : Value → Shared → Prop} {s : Shared} {a : Int} {t : Tok} {y : Addr} {oy : Obj} {Q : Value → Shared → Prop} (J : s.heap.get? y = some oy) (hd : oy.data = .plain) (h : Q .notImplemented s) :
    wpAny (model prog w) A (call (.builtin "int.__mul__") [.int a t, .ref y]) Q E s := by
  refine call_meets (T := "int") (name := PySem.dunder "mul") (id := "int.__mul__") (self := .int a t) (rest := [.ref y]) F.slot_int_mul (typeIs_int s a t) F.entry_int_mul (F.args_int_mul_2 (.int a t) (.ref y)) (int_mul_inst a t y oy hd) ?_
  exact ⟨J, h⟩
theorem int_try {prog : Program} {w : World} {A : Around} {E : Value → Shared → Prop} {s : Shared} {a : Int} {t : Tok} {y : Addr} (nm : Str) (sl : Slot "int" nm "int.__mul__")
    (h0 : wpAny (model prog w) A (call (.builtin "int.__mul__") [.int a t, .ref y]) (fun v s' => v = .notImplemented ∧ (none : Option Value) = none ∧ s' = s) E s) :
    wpAny (model prog w) A (tryMethod (.int a t) nm (.ref y)) (fun r s' => r = none ∧ s' = s) E s := by
  exact wpAny_tryMethod_declines (T := "int") (id := "int.__mul__") (Q := fun r s' => r = none ∧ s' = s) (typeIs_int s a t) sl h0
open PySem.W in
theorem bin_reflI {prog : Program} {w : World} {A : Around} {E : Value → Shared → Prop} {s : Shared} {K : Frag} {y C f f0 : Addr} {oy : Obj} {od : Option Obj} {a : Int} {t : Tok} {ro : Option Value} {Q : Value → Shared → Prop}
    (Y : K.In s.heap) (J : InstAt s.heap y oy C od) (hd : oy.data = .plain) (c : OwnB K C (PySem.dunderR "mul") f) (hm0 : findIn K (.ref C) (PySem.dunder "mul") = some (some (.ref f0)))
    (h2 : findIn K (.type "int") (PySem.dunderR "mul") = some ro) (hsub : subIn K (.ref C) (.type "int") = some false)
    (h : wpAny (model prog w) A (call (.ref f) [.ref y, .int a t]) (PySem.W.CmpBack Q) E s) : wpAny (model prog w) A (binaryOp .Mult (.int a t) (.ref y)) Q E s := by
  obtain ⟨cd, rest, hcd, hm⟩ := ksp_first c.self1
  have one := ksp_try Y J c.at_ c.fn h
  have dec : wpAny (model prog w) A (tryMethod (.int a t) (PySem.dunder "mul") (.ref y)) (fun r s' => r = none ∧ s' = s) E s := int_try (PySem.dunder "mul") F.slot_int_mul (int_mul_dec J.1 hd ⟨rfl, rfl, rfl⟩)
  obtain ⟨hh, g, d, tt, os⟩ := s
  have L1 : Looks (model prog w) hh (typeOf (.ref y)) (.ref C) := J.type
  have L2 : Looks (model prog w) hh (typeOf (.int a t)) (.type "int") := Looks.of_pure rfl
  have L3 : Looks (model prog w) hh (fillsNumberSlot (.ref C) "mul") true := fills_K Y hcd hm hm0
  have L4 : Looks (model prog w) hh (fillsNumberSlot (.type "int") "mul") true := Looks.of_pure F.fills_int_mul
  have L5 : Looks (model prog w) hh (isSubtype (.ref C) (.type "int")) false := looks_subIn Y hsub
  have L7 : Looks (model prog w) hh (numberSlotInPython (.type "int") "mul") false := Looks.of_pure rfl
  have hne : (Value.type "int" == Value.ref C) = false := Bool.eq_false_iff.mpr fun q => by cases beq_iff_eq.mp q
  have hi : Operator.Mult.info = ("*", "mul") := rfl
  simp only [binaryOp, hi]
  refine wpAny_holding (wpAny_bind ?_)
  unfold binaryOp1
  refine wpAny_bind (L2.at (wpAny_bind (L1.at (wpAny_bind (L4.at ?_)))))
  simp only [hne, Bool.false_eq_true, if_false]
  ksp_lk
  refine wpAny_mono dec (fun r s' hr' => ?_) fun _ _ e => e
  obtain ⟨rfl, rfl⟩ := hr'
  ksp_lk
  refine wpAny_mono one (fun r s' hr' => ?_) fun _ _ e => e
  obtain ⟨v, rfl, hq⟩ := hr'
  ksp_lk
  exact hq

section
variable {X : Cx} {CX : CXT} {k : Nat} {f C : Addr} {fd : FuncData} {ps : List Str} {sp : Sp} {E : XK}
/-- 3 * x -/
def rBinRI (C : Addr) (sp : Sp) (E : XK) : R2 := fun x y H Q => ∃ (i : Int) (a dx : Addr) (fs : List (Str × V)), x = .int i ∧ y = .ref a ∧ H a = some (.ins C dx fs) ∧ sp [y, x] H Q E
theorem op_binRI {f0 : Addr} (c : OwnB X.K C (PySem.dunderR "mul") f) (c0 : OwnB X.K C (PySem.dunder "mul") f0) (t : BinT X.K C .Mult "int") (hsub : PySem.W.subIn X.K (.ref C) (.type "int") = some false)
    (F : FnOk X.prog X.w X.K X.mg X.base CX k f fd ps sp) (hr : Room k X.A) (hb : Binds X.K fd ps []) (hx : Passes CX X E) : OpR X (binaryOp .Mult) (rBinRI C sp E) := by
  intro pins s σ H x y v u Q I rx ry h
  obtain ⟨i, a, dx, fs, rfl, rfl, ea, q⟩ := h
  cases (show u = Value.ref a from ry)
  obtain ⟨tk, rfl⟩ := rx
  obtain ⟨ox, od, J, hd⟩ := StX.insC_at I (C := C) (.inr ⟨dx, fs, ea⟩)
  obtain ⟨ro, h2⟩ := t.r
  refine bin_reflI I.kIn J hd c c0.at_ h2 hsub ?_
  refine wpAny_mono (run_fn (dvs := []) (ds := []) (us := [.ref a, .int i tk]) (vs := [.ref a, .int i]) F hr hb .nil hx I (.cons rfl (.cons ⟨tk, rfl⟩ .nil)) q) (fun w s' z => ?_) fun _ _ x => x
  obtain ⟨z', H', I', rz, qz⟩ := z
  exact SlX.cmpback rz ⟨z', H', I', rz, qz⟩
end
end Tw
/-! Tw: lambdas: a try whose clause knows how many names there are; the head's hook with tables of code objects. -/
namespace Tw
open PySem PySem.Spec PyProof.Rows L2 He
/-- what the clause wishes: its error stands tracked behind the suite -/
def wAsL (K : PySem.W.Frag) (c : Value) (i : Nat) (ts : Addr → Value → Option Addr → TS) (Wout : WX) (n : Nat) (D : Ends) : WX := fun cls d σ H => σ.length = n →
  ∃ (C : Addr) (b : Bool), cls = .ref C ∧ PySem.W.exmOne K cls c = some b ∧ (b = true → ∀ a, H a = none → ts a cls d { nx := fun σ' H' => D.nx (σ'.set i none) (upd H' a (exT a C d)), rt := D.rt, bk := fun σ' H' => D.bk (σ'.set i none) H', ct := fun σ' H' => D.ct (σ'.set i none) H' } (σ.set i (some (.ref a))) H) ∧
    (b = false → Wout cls d σ H)
section
variable {X : Cx} {x n : Str} {c : Value} {i : Nat} {body suite : List Stmt} {b₀ : Stmt} {np pos pos' : Pos} {tb : WX → TS} {ts : Addr → Value → Option Addr → TS} {Wout : WX}
theorem ps_tryL (hex : X.ex = []) (hs : X.stack = X.env :: X.outer) (hf : X.env.frame = some X.env.locals) (hN : X.N.Nodup) (hi : X.N[i]? = some n) (hln : X.env.kindOf n = some .local) (hc : Names X x c) (tk : Takes X Wout)
    (hb : ∀ (W : WX) (pn : List (Addr × Obj)) (xe : Value → Shared → Prop), Takes (X.tr pn xe) W → PassesOwn (model X.prog X.w) X.A X.env xe → PSs (X.tr pn xe) body (tb W))
    (hsu : ∀ (a : Addr) (oe : Obj) (cls : Value) (d : Option Addr) (pn : List (Addr × Obj)), Zc cls d oe → (∃ vs, oe.data = .fields vs) → PSs (X.suite a ((a, oe) :: pn)) (b₀ :: suite) (ts a cls d)) :
    PS X (.Try body [.ExceptHandler (some (.Name x np)) (some n) (b₀ :: suite) pos'] [] [] pos) (fun D σ H => tb (wAsL X.K c i ts Wout X.N.length D) D σ H) := by
  refine ⟨fun pins s σ H D I h => ?_⟩
  have ok := I.ok
  have hfr : X.A.frames = some (X.env :: X.outer) := by rw [ok.frames, hs]
  have hloc : Loc X.env.scope n := .inl hln
  refine wpAny_Try_except ?_
  refine wpAny_mono ((hb (wAsL X.K c i ts Wout X.N.length D) (X.pn ++ pins) (fun e s₁ => wpAny (model X.prog X.w) X.A (noteFrame e X.env) (fun _ s₂ => wpAny (model X.prog X.w) X.A (setFlight e none) (fun _ s₃ =>
    wpAny (model X.prog X.w) X.A (handleBy e X.env [.ExceptHandler (some (.Name x np)) (some n) (b₀ :: suite) pos']) (SP X pins D) X.xe s₃) X.xe s₂) X.xe s₁) (fun u s' xx => ?_) PassesOwn.looking).run [] s σ H D (I.toTry _) h) (fun f s1 hsp => ?_) (fun e s1 he => he)
  · obtain ⟨a, B, sI, pins', σ', H', cls, d, rfl, J', nb, up, sky, na, os, ag, hw⟩ := xx
    obtain ⟨C, b, hcls, hb1, hyes, hno⟩ := hw J'.len
    have J : Inv X pins σ' H' sI := J'.ofTry ok
    have sky' : Sky B (X.env :: X.outer) a (Zc cls d) X.env.locals s'.heap := by rw [← hs]; exact sky
    show wpAny (model X.prog X.w) X.A (noteFrame (.ref a) X.env) _ _ _
    refine Sky.land Zc.steady hfr hf sky' fun h3 fl3 up3 => ?_
    have J3 : Inv X pins σ' H' { s' with heap := h3 } := J.landed nb fl3.1 (up.trans up3) os ag
    obtain ⟨oe3, vs3, he3, hz3, hd3⟩ := fl3.there
    have notFr : ∀ {h : Heap} {o : Obj} {vs : Array Value}, h.FunFrames B (X.env :: X.outer) → h.get? a = some o → o.data = .fields vs → a ∉ frs (X.env :: X.outer) := fun {h o vs} ff e dd hm => by
      obtain ⟨_, o', e', hnf⟩ := ff.mem hm
      rw [e] at e'
      cases e'
      exact hnf _ dd
    have nfr := notFr fl3.2.2.1 he3 hd3
    have nL : a ≠ X.env.locals := fun z => nfr (List.mem_filterMap.mpr ⟨X.env, List.mem_cons_self, by rw [hf, z]⟩)
    have nF : a ∉ X.fs := fun hm => by
      obtain ⟨e, he, q⟩ := List.mem_filterMap.mp hm
      exact nfr (List.mem_filterMap.mpr ⟨e, List.mem_cons_of_mem _ he, q⟩)
    -- the error is new to this def
    have nI : sI.heap.get? a = none := by
      cases e : sI.heap.get? a with
      | none => rfl
      | some o =>
        have z := nb a o e (by rw [hs]; exact nfr)
        have z2 : B.get? a = none := fl3.2.1
        rw [z2] at z
        cases z
    have n0 : X.s_0.heap.get? a = none := by
      cases e : X.s_0.heap.get? a with
      | none => rfl
      | some o =>
        obtain ⟨o', z⟩ := J.base.there a o e (by rw [hex]; exact fun z => nomatch z)
        rw [nI] at z
        cases z
    have npin : ∀ p ∈ X.pn ++ pins, p.1 ≠ a := fun p hp z => by
      obtain ⟨e, _⟩ := J.pin p hp
      rw [z, nI] at e
      cases e
    have S3 := J3.suite he3 hd3 na nL nF
    refine wpAny_handleBy_cons (codeAny_handlers_test ?_) (by intro q; cases q)
    have LT : PySem.W.Looks (model X.prog X.w) h3 (typeOf (.ref a)) cls := fun A Q E s k q => wpAny_typeOf_ref (k _ _ he3) (by rw [hz3.1]; exact q)
    have LM := PySem.W.exm_one (M := model X.prog X.w) (J3.kIn) LT hb1
    have test : ∀ {Q : Value → Shared → Prop} {E : Value → Shared → Prop}, Q c { s' with heap := h3 } → wpAny (model X.prog X.w) (X.A.mark (some (.ref a))) (eval (.Name x np) X.env) Q E { s' with heap := h3 } := fun {Q E} q => by
      obtain ⟨hg, hdbg, hm | ⟨hm, hv, hnn⟩⟩ := hc
      · exact ld_glob (X := X.suite a ((a, oe3) :: (X.pn ++ pins))) S3 hg hm q hdbg
      · exact ld_blt (X := X.suite a ((a, oe3) :: (X.pn ++ pins))) S3 hg hm hv q hnn hdbg
    refine test (LM.here ?_)
    cases b with
    | true =>
      refine codeAny_handlers_suite_as ?_
      refine HandSPX.lands_againZ fl3 fun h4 fl4 up4 => ?_
      have J4 : Inv X pins σ' H' { s' with heap := h4 } := J.landed nb fl4.1 ((up.trans up3).trans up4) os ag
      obtain ⟨oe4, vs4, he4, hz4, hd4⟩ := fl4.there
      have S4 := J4.suite he4 hd4 na nL nF
      refine store_ok (X := X.suite a ((a, oe4) :: (X.pn ++ pins))) (v := .ref a) S4 hN hi hloc rfl (fun s5 S5 => ?_) (.inr hln)
      refine wpAny_mono ((hsu a oe4 cls d (X.pn ++ pins) hz4 ⟨_, hd4⟩).run [] s5 _ H' _ S5 (hyes rfl a na)) (fun f s6 hsp => ?_) (fun _ _ z => False.elim z)
      have end_ : ∀ {σ6 : L2.St} {H6 : Hp} {Q : Shared → Prop}, Inv (X.suite a ((a, oe4) :: (X.pn ++ pins))) [] σ6 H6 s6 → (∀ s7, Inv X ((a, oe4) :: pins) (σ6.set i none) H6 s7 → Q s7) →
          wpAny (model X.prog X.w) X.A (do bindName X.env n .none; unbindBehindTheSuite X.env n pos') (fun _ s7 => Q s7) X.xe s6 := fun {σ6 H6 Q} S6 hq => by
        have J6 : Inv X ((a, oe4) :: pins) σ6 H6 s6 := (S6.unsuite ok).pins_of fun p hp => S6.pin p (List.mem_append_left _ (by
          rcases List.mem_cons.mp hp with z | z
          · exact List.mem_cons.mpr (.inl z)
          · exact List.mem_cons_of_mem _ (List.mem_append_right _ z)))
        exact gone_ok J6 hN hi hln hq
      have drop : ∀ {σ7 : L2.St} {H7 : Hp} {s7 : Shared}, Inv X ((a, oe4) :: pins) σ7 H7 s7 → Inv X pins σ7 H7 s7 := fun J7 => J7.pins_of fun p hp => J7.pin p (List.mem_append_right _ (List.mem_cons_of_mem _ hp))
      subst hcls
      cases f with
      | next =>
        obtain ⟨σ6, H6, S6, q6⟩ := hsp
        exact end_ S6 fun s7 J7 => ⟨_, _, track J7 n0 npin hz4 hd4, q6⟩
      | brk =>
        obtain ⟨σ6, H6, S6, q6⟩ := hsp
        exact end_ S6 fun s7 J7 => ⟨_, _, drop J7, q6⟩
      | cont =>
        obtain ⟨σ6, H6, S6, q6⟩ := hsp
        exact end_ S6 fun s7 J7 => ⟨_, _, drop J7, q6⟩
      | ret u =>
        obtain ⟨v6, σ6, H6, S6, r6, q6⟩ := hsp
        exact end_ S6 fun s7 J7 => ⟨_, _, _, drop J7, r6, q6⟩
    | false =>
      show wpAny _ X.A (handleBy (.ref a) X.env []) _ _ _
      refine wpAny_handleBy_nil ?_
      obtain ⟨k1, k2, k3, oe, vs, T, oT, ts', he, hz, hd, h1, hr⟩ := id fl3
      unfold PySem.passOn
      refine wpAny_bind (wpAny_field he hd h1 ?_)
      rw [if_neg (show ¬ ((Value.ref T == Value.none) = true) from by simp)]
      have fin : wpAny (model X.prog X.w) X.A (setFlight (.ref a) X.env.frame) (fun _ s4 => wpAny (model X.prog X.w) X.A (throw (.ref a) : Sem Flow) (SP X pins D) X.xe s4) X.xe { s' with heap := h3 } := by
        rw [hf]
        refine HandSPX.setFlight_upZ fl3 fun h4 hh4 up4 => wpAny_throw (tk _ _ ?_)
        exact ⟨a, B, sI, pins, σ', H', cls, d, rfl, J, nb, (up.trans up3).trans up4, .inr (.inr (by rw [hs]; exact hh4)), na, os, ag, hno rfl⟩
      first
        | exact wpAny_bind (wpAny_pure (wpAny_bind fin))
        | exact wpAny_bind fin
  · cases f with
    | next =>
      obtain ⟨σ', H', J', q⟩ := hsp
      exact wpAny_execs_nil ⟨σ', H', J'.ofTry ok, q⟩
    | brk =>
      obtain ⟨σ', H', J', q⟩ := hsp
      exact ⟨σ', H', J'.ofTry ok, q⟩
    | cont =>
      obtain ⟨σ', H', J', q⟩ := hsp
      exact ⟨σ', H', J'.ofTry ok, q⟩
    | ret u =>
      obtain ⟨v, σ', H', J', r, q⟩ := hsp
      exact ⟨v, σ', H', J'.ofTry ok, r, q⟩
end

/-! ### the hook with empty tables of code objects -/
def codeAt (K : Fg) (f : Addr) : Addr := match K.lookup f with
  | some ⟨_, _, .func fd, _⟩ => (match fd.code with
    | .ref c => c
    | _ => 0)
  | _ => 0
def tabAt (K : Fg) (f : Addr) : Addr := match K.lookup (codeAt K f) with
  | some ⟨_, _, .fields vs, _⟩ => (match (vs[11]? : Option Value) with
    | some (.ref P) => P
    | _ => 0)
  | _ => 0
def isTab : Option Obj → Bool
  | some ⟨.none, none, .fields vs, sl⟩ => vs.isEmpty && sl.isEmpty
  | _ => false
theorem isTab_ok {o : Option Obj} (h : isTab o = true) : o = some { cls := .none, data := .fields #[] } := by
  unfold isTab at h
  split at h
  · rename_i vs sl
    obtain ⟨h1, h2⟩ := ba h
    have e1 : vs = #[] := by simpa using h1
    have e2 : sl = #[] := by simpa using h2
    rw [e1, e2]
  · cases h
/-- the def at f: its code object and the table of it -/
def tabB (K : Fg) (f : Addr) : Bool := PySem.W.codeHdIn K (codeAt K f) (tabAt K f) && (K.lookup (tabAt K f)).isNone
abbrev AlL : Type := AlD × List Bool
def obsL (n : Nat) (fs : Fz) (fn : List DefD) (ls : List (Fg → Addr)) (g : Addr → Option Obj) : AlL := (obsYG n fs fn g, ls.map fun f => isTab (g (tabAt (frG g (asD g n)) (f (frG g (asD g n))))))
def hookL (n : Nat) (fs : Fz) (fn : List DefD) (ls : List (Fg → Addr)) : PySem.W.Hook where
  α := AlL
  obs := fun s => obsL n fs fn ls s.heap.get?
  val := fun _ => (valD fn, ls.map fun _ => true)
  says := fun _ h => ∃ K : Fg, K.In h ∧ SaysY fs fn K ∧ ∀ f ∈ ls, isTab (h.get? (tabAt K (f K))) = true
  of := fun _ s e => ⟨_, frG_in, congrArg (fun z : AlL => z.1) e, fun f hf => List.map_inj_left.mp (congrArg (fun z : AlL => z.2) e) f hf⟩
  keeps := fun _ _ _ ⟨K, hK, c, t⟩ k => ⟨K, PySem.W.Frag.In.keeps hK k, c, fun f hf => by
    have e := isTab_ok (t f hf)
    rw [k _ _ e]
    rfl⟩
theorem obsL_eq {n : Nat} {fs : Fz} {fn : List DefD} {ls : List (Fg → Addr)} {g : Addr → Option Obj} {s : Shared} (h : ∀ a, g a = s.heap.get? a) : obsL n fs fn ls g = (hookL n fs fn ls).obs s := by
  have e : g = s.heap.get? := funext h
  rw [e] <;> rfl

/-! ### x[i] = v by an own __setitem__ -/
section
variable {X : Cx} {CX : CXT} {k : Nat} {f C : Addr} {fd : FuncData} {ps : List Str} {sp : Sp} {E : XK}
def setOwn (C : Addr) (sp : Sp) (E : XK) : V → V → V → Hp → (Hp → Prop) → Prop := fun o i v H Q => ∃ (a dx : Addr) (fs : List (Str × V)), o = .ref a ∧ H a = some (.ins C dx fs) ∧ sp [o, i, v] H (fun _ H' => Q H') E
theorem pset_own (hq : PySem.W.noSeq X.K C = true) (hs : PySem.W.findIn X.K (.ref C) "__setitem__" = some (some (.ref f))) (hf : PySem.W.isFn X.K (.ref f) = true) (F : FnOk X.prog X.w X.K X.mg X.base CX k f fd ps sp) (hr : Room k X.A) (hb : Binds X.K fd ps []) (hx : Passes CX X E) : PSet X (setOwn C sp E) := by
  intro pins s σ H o i v ov iv u Q I ro ri rv h
  obtain ⟨a, dx, fs, rfl, ea, q⟩ := h
  cases (show ov = Value.ref a from ro)
  obtain ⟨od, ox, J⟩ := inst_at I ea
  obtain ⟨m, fr⟩ := I.fr
  refine PySem.W.ksp_setItem fr I.ok.mod.kin J hq hs hf ?_
  refine wpAny_mono (run_fn (dvs := []) (ds := []) (us := [.ref a, iv, u]) (vs := [.ref a, i, v]) F hr hb .nil hx I (.cons rfl (.cons ri (.cons rv .nil))) q) (fun w s' z => ?_) fun _ _ x => x
  obtain ⟨z', H', I', rz, qz⟩ := z
  exact ⟨H', I', qz⟩
end
end Tw
/-! Tw: the head's hook with defs at any address (methods behind staticmethod, classmethod, property). -/
namespace Tw
open PySem PySem.Spec PyProof.Rows L2 He
abbrev DefA := He5.DefA
abbrev AlA : Type := (Bool × List FnW) × List (Option (List (Option (Str × Int))))
def obsA (fs : Fz) (fn : List DefA) (ts : List Tab) (K : Fg) : AlA := (((fs.all fun f => f K) && fn.all fun d => d.ok K, fn.map fun d => He5.fnA K (d.at_ K)), ts.map fun t => dicW K (t.1 K))
def valA (fn : List DefA) (ts : List Tab) (w : World) : AlA := ((true, fn.map He5.DefA.val), ts.map fun t => some (keysIn w.params t.2))
def obsAG (n : Nat) (fs : Fz) (fn : List DefA) (ts : List Tab) (g : Addr → Option Obj) : AlA := obsA fs fn ts (frG g (asD g n ++ [cStatics]))
def SaysA (fs : Fz) (fn : List DefA) (ts : List Tab) (w : World) (K : Fg) : Prop := obsA fs fn ts K = valA fn ts w
def hookA (n : Nat) (fs : Fz) (fn : List DefA) (ts : List Tab) : PySem.W.Hook where
  α := AlA
  obs := fun s => obsAG n fs fn ts s.heap.get?
  val := fun w => valA fn ts w
  says := fun w h => ∃ K : Fg, K.In h ∧ SaysA fs fn ts w K
  of := fun _ _ e => ⟨_, frG_in, e⟩
  keeps := fun _ _ _ ⟨K, hK, c⟩ k => ⟨K, PySem.W.Frag.In.keeps hK k, c⟩
theorem obsAG_eq {n : Nat} {fs : Fz} {fn : List DefA} {ts : List Tab} {g : Addr → Option Obj} {s : Shared} (h : ∀ a, g a = s.heap.get? a) : obsAG n fs fn ts g = (hookA n fs fn ts).obs s := by
  have e : g = s.heap.get? := funext h
  rw [e] <;> rfl
abbrev DefsA (fn : List DefA) (K : Fg) (fd : Nat → FuncData) : Prop := ∀ (i : Nat) (d : DefA), fn[i]? = some d → FunD K d.name d.qual d.params d.body d.scope (d.dvs K) (d.kws K) (d.at_ K) (fd i)
section
variable {fs : Fz} {fn : List DefA} {ts : List Tab} {w : World} {K : Fg}
theorem SaysA.fact (c : SaysA fs fn ts w K) (i : Nat) {f : Fg → Bool} (h : fs[i]? = some f) : f K = true := by
  have c1 := (ba (show ((fs.all fun f => f K) && fn.all fun d => d.ok K) = true from congrArg (fun z : AlA => z.1.1) c)).1
  exact List.all_eq_true.mp c1 f (List.mem_of_getElem? h)
theorem SaysA.def_ (c : SaysA fs fn ts w K) (i : Nat) {d : DefA} (h : fn[i]? = some d) : ∃ fd, FunD K d.name d.qual d.params d.body d.scope (d.dvs K) (d.kws K) (d.at_ K) fd := by
  have c2 := (ba (show ((fs.all fun f => f K) && fn.all fun d => d.ok K) = true from congrArg (fun z : AlA => z.1.1) c)).2
  have e : fn.map (fun d => He5.fnA K (d.at_ K)) = fn.map He5.DefA.val := congrArg (fun z : AlA => z.1.2) c
  have e2 : (fn.map fun d => He5.fnA K (d.at_ K))[i]? = (fn.map He5.DefA.val)[i]? := by rw [e]
  rw [List.getElem?_map, List.getElem?_map, h] at e2
  exact He5.DefA.funD (Option.some.inj e2) (List.all_eq_true.mp c2 d (List.mem_of_getElem? h))
theorem SaysA.tab (c : SaysA fs fn ts w K) (i : Nat) {t : Tab} (h : ts[i]? = some t) : ∃ es n, KDict K w (t.1 K) es n := by
  have e : ts.map (fun t => dicW K (t.1 K)) = ts.map fun t => some (keysIn w.params t.2) := congrArg (fun z : AlA => z.2) c
  have e2 : (ts.map fun t => dicW K (t.1 K))[i]? = (ts.map fun t => some (keysIn w.params t.2))[i]? := by rw [e]
  rw [List.getElem?_map, List.getElem?_map, h] at e2
  exact dicW_ok (Option.some.inj e2)
theorem SaysA.defs (c : SaysA fs fn ts w K) {d0 : DefA} (h0 : fn[0]? = some d0) : ∃ fd : Nat → FuncData, DefsA fn K fd := by
  obtain ⟨u0, _⟩ := c.def_ 0 h0
  have h : ∀ i : Nat, ∃ u : FuncData, ∀ d : DefA, fn[i]? = some d → FunD K d.name d.qual d.params d.body d.scope (d.dvs K) (d.kws K) (d.at_ K) u := fun i => by
    cases e : fn[i]? with
    | none => exact ⟨u0, fun d z => nomatch z⟩
    | some d =>
      obtain ⟨u, hu⟩ := c.def_ i e
      exact ⟨u, fun d' z => by
        cases z
        exact hu⟩
  exact ⟨fun i => Classical.choose (h i), fun i d e => Classical.choose_spec (h i) d e⟩
end
/-- what the walk asks of the written part and of the module's names -/
structure TxtA (fs : Fz) (fn : List DefA) (ts : List Tab) (w : World) (K : Fg) (mg : Str → Option Value) : Prop where
  c : SaysA fs fn ts w K
  gl : ∀ x, (Fa.glo x).ok K = true → mg x = some (.ref (ga K x))
  fr : ∀ x, (Fa.free x).ok K = true → mg x = none
  nt : ∀ x i, (Fa.int x i).ok K = true → ∃ t, mg x = some (.int i t)
  tx : ∀ x z, (Fa.str x z).ok K = true → ∃ t, mg x = some (.str z t)
theorem TxtA.fact {fs : Fz} {fn : List DefA} {ts : List Tab} {w : World} {K : Fg} {mg : Str → Option Value} (T : TxtA fs fn ts w K mg) (i : Nat) {f : Fg → Bool} (h : fs[i]? = some f := by rfl) : f K = true := T.c.fact i h
end Tw
/-! Tw: the head's hook for laws with lambdas: defs at any address, the tables of code objects left out of the fragment and told empty. -/
namespace Tw
open PySem PySem.Spec PyProof.Rows L2 He
def obsZ (fs : Fz) (fn : List DefA) (K : Fg) : AlD := ((fs.all fun f => f K) && fn.all fun d => d.ok K, fn.map fun d => He5.fnA K (d.at_ K))
def valZ (fn : List DefA) : AlD := (true, fn.map He5.DefA.val)
def SaysZ (fs : Fz) (fn : List DefA) (K : Fg) : Prop := obsZ fs fn K = valZ fn
section
variable {fs : Fz} {fn : List DefA} {K : Fg}
theorem SaysZ.fact (c : SaysZ fs fn K) (i : Nat) {f : Fg → Bool} (h : fs[i]? = some f := by rfl) : f K = true := by
  obtain ⟨c1, _⟩ := ba (congrArg (fun z : AlD => z.1) (show obsZ fs fn K = valZ fn from c))
  exact of_all (f := fun f : Fg → Bool => f K) c1 (List.mem_of_getElem? h)
theorem SaysZ.def_ (c : SaysZ fs fn K) (i : Nat) {d : DefA} (h : fn[i]? = some d) : ∃ fd, FunD K d.name d.qual d.params d.body d.scope (d.dvs K) (d.kws K) (d.at_ K) fd := by
  obtain ⟨_, c2⟩ := ba (congrArg (fun z : AlD => z.1) (show obsZ fs fn K = valZ fn from c))
  have e2 : fn.map (fun d => He5.fnA K (d.at_ K)) = fn.map He5.DefA.val := congrArg (fun z : AlD => z.2) c
  have e3 := congrArg (fun l : List FnW => l[i]?) e2
  simp only [List.getElem?_map, h, Option.map_some] at e3
  exact He5.DefA.funD (Option.some.inj e3) (of_all (f := fun d : DefA => d.ok K) c2 (List.mem_of_getElem? h))
theorem SaysZ.defs (c : SaysZ fs fn K) {d0 : DefA} (h0 : fn[0]? = some d0) : ∃ fd : Nat → FuncData, DefsA fn K fd := by
  obtain ⟨u0, _⟩ := c.def_ 0 h0
  have h : ∀ i : Nat, ∃ u : FuncData, ∀ d : DefA, fn[i]? = some d → FunD K d.name d.qual d.params d.body d.scope (d.dvs K) (d.kws K) (d.at_ K) u := fun i => by
    by_cases hi : ∃ d, fn[i]? = some d
    · obtain ⟨d, hd⟩ := hi
      obtain ⟨u, hu⟩ := c.def_ i hd
      refine ⟨u, fun d' z => ?_⟩
      rw [hd] at z
      rw [← Option.some.inj z]
      exact hu
    · exact ⟨u0, fun d z => absurd ⟨d, z⟩ hi⟩
  obtain ⟨fd, hf⟩ := Classical.axiomOfChoice h
  exact ⟨fd, fun i d e => hf i d e⟩
end
/-- the written part without the tables of these defs -/
def frZ (n : Nat) (ls : List (Fg → Addr)) (g : Addr → Option Obj) : Fg := frG g ((asD g n ++ [cStatics]).filter fun a => !((ls.map fun f => tabAt (frG g (asD g n)) (f (frG g (asD g n)))).contains a))
def obsZG (n : Nat) (fs : Fz) (fn : List DefA) (ls : List (Fg → Addr)) (g : Addr → Option Obj) : AlL := (obsZ fs fn (frZ n ls g), ls.map fun f => isTab (g (tabAt (frZ n ls g) (f (frZ n ls g)))))
def hookZ (n : Nat) (fs : Fz) (fn : List DefA) (ls : List (Fg → Addr)) : PySem.W.Hook where
  α := AlL
  obs := fun s => obsZG n fs fn ls s.heap.get?
  val := fun _ => (valZ fn, ls.map fun _ => true)
  says := fun _ h => ∃ K : Fg, K.In h ∧ SaysZ fs fn K ∧ ∀ f ∈ ls, isTab (h.get? (tabAt K (f K))) = true
  of := fun _ s e => by
    have e2 : (ls.map fun f => isTab (s.heap.get? (tabAt (frZ n ls s.heap.get?) (f (frZ n ls s.heap.get?))))) = ls.map fun _ => true := congrArg (fun z : AlL => z.2) e
    exact ⟨_, frG_in, congrArg (fun z : AlL => z.1) e, fun f hf => List.map_inj_left.mp e2 f hf⟩
  keeps := fun _ _ _ ⟨K, hK, c, t⟩ k => ⟨K, PySem.W.Frag.In.keeps hK k, c, fun f hf => by
    rw [k _ _ (isTab_ok (t f hf))]
    rfl⟩
theorem obsZG_eq {n : Nat} {fs : Fz} {fn : List DefA} {ls : List (Fg → Addr)} {g : Addr → Option Obj} {s : Shared} (h : ∀ a, g a = s.heap.get? a) : obsZG n fs fn ls g = (hookZ n fs fn ls).obs s := by
  rw [show g = s.heap.get? from funext h]
  rfl
/-- what the walk asks of the written part and of the module's names -/
structure TxtZ (fs : Fz) (fn : List DefA) (K : Fg) (mg : Str → Option Value) : Prop where
  c : SaysZ fs fn K
  gl : ∀ x, (Fa.glo x).ok K = true → mg x = some (.ref (ga K x))
  fr : ∀ x, (Fa.free x).ok K = true → mg x = none
  nt : ∀ x i, (Fa.int x i).ok K = true → ∃ t, mg x = some (.int i t)
  tx : ∀ x z, (Fa.str x z).ok K = true → ∃ t, mg x = some (.str z t)
theorem txtZ {fs : Fz} {fn : List DefA} {K : Fg} {h : Heap} {mg : Str → Option Value} (X : K.In h) (G : h.Ns mainGlobals mg) (c : SaysZ fs fn K) : TxtZ fs fn K mg :=
  ⟨c, fun x hx => He.glo_ok X G hx, fun x hx => He.free_ok X G hx, fun x i hx => He.int_ok X G hx, fun x z hx => He.str_ok X G hx⟩
theorem TxtZ.fact {fs : Fz} {fn : List DefA} {K : Fg} {mg : Str → Option Value} (T : TxtZ fs fn K mg) (i : Nat) {f : Fg → Bool} (h : fs[i]? = some f := by rfl) : f K = true := T.c.fact i h
/-- the code objects and tables of the defs that make lambdas -/
def csZ (ls : List (Fg → Addr)) (K : Fg) : List (Addr × Addr) := ls.map fun f => (Tw.codeAt K (f K), tabAt K (f K))
end Tw
/-! Tw: a lambda as a value (tracked), and sorted(xs, key=lambda x: x.field). -/
namespace Tw
open PySem PySem.Spec PyProof.Rows L2 He LamX
/-- the function object of a lambda stands at f -/
def FunO (f : Addr) (q : Str) (ps : Arguments) (e : Expr) (sc : Scope) (cl : List (Str × Addr)) (c' : Addr) : HO := .ext fun h => ∃ pm ctv : Value, h.get? f = some (PySem.W.kla_obj "<lambda>" q ps e sc cl pm c' ctv)
theorem funO_ne {f c' : Addr} {q : Str} {ps : Arguments} {e : Expr} {sc : Scope} {cl : List (Str × Addr)} (xs : Array Value) : FunO f q ps e sc cl c' ≠ .tbl xs := fun z => by
  unfold FunO at z
  cases z
section
variable {X : Cx} {pins : List (Addr × Obj)} {σ : L2.St} {H : Hp} {s : Shared}
theorem funO_laid {h' : Heap} {tk : Nat} {q : Str} {ps : Arguments} {e : Expr} {sc : Scope} {cl : List (Str × Addr)} {pm ctv : Value} {c' : Addr} (I : Inv X pins σ H s) (k : ∀ b o, s.heap.get? b = some o → h'.get? b = some o) (hp : s.heap.objs.size ≤ h'.objs.size) :
    Inv X pins σ (upd H h'.objs.size (FunO h'.objs.size q ps e sc cl c')) { s with heap := h'.push (PySem.W.kla_obj "<lambda>" q ps e sc cl pm c' ctv), toks := tk } := by
  have hz : (h'.push (PySem.W.kla_obj "<lambda>" q ps e sc cl pm c' ctv)).get? h'.objs.size = some (PySem.W.kla_obj "<lambda>" q ps e sc cl pm c' ctv) := Heap.get?_push_size _ rfl
  refine I.laid (fun b o z => Heap.get?_push_of_some _ (k b o z)) hp ?_
  exact ⟨⟨pm, ctv, hz⟩, ⟨_, hz⟩, fun h1 h2 ⟨pm, ctv, z⟩ st => ⟨pm, ctv, st _ z⟩⟩
/-- a lambda is made: its function object tracked -/
theorem lam_laid {T : List (Addr × Str)} {c P : Addr} {ps : Arguments} {e : Expr} {sc : Scope} {pos : Pos} {E : Value → Shared → Prop} {Q : Value → Shared → Prop} (I : Inv X pins σ H s) (TB : TabB X.base X.mg c P) (hcode : X.env.code = .ref c)
    (hm : (P, X.env.qual ++ "<lambda>") ∈ T) (hu : ∀ p ∈ T, p.1 = P → p.2 = X.env.qual ++ "<lambda>") (hT : Tabs T H) (hdef : defaultsOf ps X.env = ([], [])) (hfree : ∀ y ∈ sc.names, y.2 = .free → ∃ c, X.env.cells.lookup y.1 = some c)
    (h : ∀ (f c' : Addr) (H1 : Hp) (s' : Shared), Inv X pins σ H1 s' → ExtN H H1 → Tabs T H1 → H f = none → H1 f = some (FunO f (X.env.qual ++ "<lambda>") ps e sc (cloFrom X.env.cells sc.names []) c') → H1 c' = some (CodeO c' (X.env.qual ++ "<lambda>")) → Q (.ref f) s') :
    wpAny (model X.prog X.w) X.A (eval (.Lambda ps e sc pos) X.env) Q E s := by
  obtain ⟨tb, hP, ht, ha⟩ := hT _ hm
  have bP : s.heap.BuiltinsAt X.mg P := TB.bm.keeps I.bk
  have hP' := I.hok P _ hP
  have gl : s.heap.Ns mainGlobals X.mg := I.mod.glob.keeps I.bk
  have fin : ∀ {f c' : Addr} {H1 : Hp} {o : HO}, H1 f = none → ExtN H H1 → Tabs T H1 → ExtN H (upd H1 f o) ∧ Tabs T (upd H1 f o) := fun {f c' H1 o} n e t =>
    ⟨e.trans (ExtN.of (same_new n)), t.ext (same_new n)⟩
  refine PySem.W.kla_eval hdef ?_
  cases hc : codeAmong pos tb.toList with
  | none =>
    refine PySem.W.kla_makeFunction (c := c) (P := P) (ps := tb) (closure_ok hfree) I.ok.glob
      gl hcode (TB.code.keeps I.bk) hP' ht hc TB.gP bP fun c' ctv h' tk hx hge hlt hrec htb => ?_
    obtain ⟨c2, oc, vs, t, e2, hoc, hd, hv⟩ := hrec
    cases e2
    have nC : H c' = none := I.hok.fresh hge
    have nP : P ≠ c' := ne_of_none hP nC
    have I1 := inv_table (t' := tk) (more := #[rawInt pos.line, rawInt pos.col, .ref c']) I hP hx htb hge
      ⟨oc, vs, t, hoc, hd, hv⟩
    generalize hH1 : upd (upd H P (.tbl (tb ++ #[rawInt pos.line, rawInt pos.col, .ref c']))) c' (CodeO c' (X.env.qual ++ "<lambda>")) = H1 at I1
    have hE : ExtN H H1 := fun b o z n => by
      have n1 : b ≠ P := fun y => n tb (Option.some.inj (z.symm.trans (by rw [y]; exact hP)))
      rw [← hH1, upd_ne (ne_of_none z nC), upd_ne n1]
      exact z
    have atC : H1 c' = some (CodeO c' (X.env.qual ++ "<lambda>")) := by rw [← hH1, upd_same]
    have atP : H1 P = some (.tbl (tb ++ #[rawInt pos.line, rawInt pos.col, .ref c'])) := by rw [← hH1, upd_ne nP, upd_same]
    have eL : (tb ++ #[rawInt pos.line, rawInt pos.col, .ref c']).toList = tb.toList ++ [rawInt pos.line, rawInt pos.col, .ref c'] := by simp
    have T1 : Tabs T H1 := fun p hp => by
      by_cases hb : p.1 = P
      · rw [hu p hp hb, hb]
        refine ⟨_, atP, by rw [eL]; exact PySem.TriplesOk_snoc _ _ _ _ ht, fun p' cv z => ?_⟩
        rw [eL] at z
        rcases among_app _ ht z with y | y
        · obtain ⟨c0, z1, z2⟩ := ha p' cv y
          exact ⟨c0, z1, hE _ _ z2 codeO_ne⟩
        · exact ⟨c', y, atC⟩
      · obtain ⟨tb', a1, a2, a3⟩ := hT p hp
        refine ⟨tb', ?_, a2, fun p' cv z => ?_⟩
        · rw [← hH1, upd_ne (ne_of_none a1 nC), upd_ne hb]
          exact a1
        · obtain ⟨c0, z1, z2⟩ := a3 p' cv z
          exact ⟨c0, z1, hE _ _ z2 codeO_ne⟩
    have nf : H1 h'.objs.size = none := I1.hok.fresh (Nat.le_refl _)
    obtain ⟨f1, f2⟩ := fin (c' := c') (o := FunO h'.objs.size (X.env.qual ++ "<lambda>") ps e sc (cloFrom X.env.cells sc.names []) c') nf hE T1
    refine h h'.objs.size c' _ _ (funO_laid (s := { s with heap := h', toks := tk }) (tk := tk) I1 (fun _ _ z => z) (Nat.le_refl _)) f1 f2 (I.hok.fresh (Nat.le_trans hge (Nat.le_of_lt hlt))) upd_same ?_
    rw [upd_ne (Nat.ne_of_lt hlt)]
    exact atC
  | some cv =>
    obtain ⟨c', e', hco⟩ := ha pos cv hc
    subst e'
    refine PySem.W.kla_makeFunctionHit (c := c) (P := P) (ps := tb) (closure_ok hfree) I.ok.glob
      gl hcode (TB.code.keeps I.bk) hP' ht hc bP fun ctv h' tk hx hsz => ?_
    have nf : H h'.objs.size = none := I.hok.fresh hsz
    obtain ⟨f1, f2⟩ := fin (c' := c') (o := FunO h'.objs.size (X.env.qual ++ "<lambda>") ps e sc (cloFrom X.env.cells sc.names []) c') nf (ExtN.refl H) hT
    refine h h'.objs.size c' _ _ (funO_laid I hx hsz) f1 f2 nf upd_same ?_
    rw [upd_ne (ne_of_none hco nf)]
    exact hco
/-- what is said of a lambda made -/
def tLamV (T : List (Addr × Str)) (q : Str) (ps : Arguments) (e : Expr) (sc : Scope) (cl : List (Str × Addr)) : TE := fun _ H Q => Tabs T H ∧ ∀ (f c' : Addr) (H1 : Hp), ExtN H H1 → Tabs T H1 → H f = none → H1 f = some (FunO f q ps e sc cl c') → H1 c' = some (CodeO c' q) → Q (.ref f) H1
theorem pe_lambda {T : List (Addr × Str)} {c P : Addr} {ps : Arguments} {e : Expr} {sc : Scope} {pos : Pos} (TB : TabB X.base X.mg c P) (hcode : X.env.code = .ref c)
    (hm : (P, X.env.qual ++ "<lambda>") ∈ T) (hu : ∀ p ∈ T, p.1 = P → p.2 = X.env.qual ++ "<lambda>") (hdef : defaultsOf ps X.env = ([], [])) (hfree : ∀ y ∈ sc.names, y.2 = .free → X.env.scope.names.lookup y.1 = some .cell ∨ X.env.scope.names.lookup y.1 = some .free) :
    PE X (.Lambda ps e sc pos) (tLamV T (X.env.qual ++ "<lambda>") ps e sc (cloFrom X.env.cells sc.names [])) := by
  refine ⟨fun pins s σ H Q I h => ?_⟩
  obtain ⟨hT, h⟩ := h
  refine lam_laid I TB hcode hm hu hT hdef (fun y hy z => (hfree y hy z).elim (fun k => I.ok.has _ (.inl k)) fun k => I.ok.has _ (.inr k)) fun f c' H1 s' I1 e1 t1 n1 f1 c1 => ?_
  exact ⟨.ref f, H1, I1, rfl, h f c' H1 e1 t1 n1 f1 c1⟩
/-- a lambda's parameter and its body: x.fld -/
structure KeyL (sc : Scope) (x : Str) : Prop where
  kind : sc.kind = .function
  co : sc.isCoroutine = false
  gen : sc.isGenerator = false
  own : ∀ y ∈ sc.names, y.2 ≠ .cell
  loc : sc.names.lookup x = some .local
  clo : cloFrom [] sc.names [] = []
theorem key_call {f c' a C dx : Addr} {q x fld : Str} {ps : Arguments} {sc : Scope} {p1 p2 : Pos} {fs : List (Str × V)} {k : Int} {A : Around} (I : Inv X pins σ H s) (hf : H f = some (FunO f q ps (.Attribute (.Name x p1) fld p2) sc [] c')) (hc : H c' = some (CodeO c' q)) (L : KeyL sc x) (hd : A.depth < recursionLimit)
    (hbind : ∀ pm cv ctv u, bindArgs (PySem.W.kla_fn "<lambda>" q ps (.Attribute (.Name x p1) fld p2) sc [] pm cv ctv) ⟨[u], []⟩ = pure [(x, u)]) (hb : ∀ env : Env, attributeBase (.Name x p1) fld env (eval (.Name x p1) env) = eval (.Name x p1) env) (hx : (x == ("__debug__" : Str)) = false)
    (ha : H a = some (.ins C dx fs)) (cl : Cls X.K C) (na : NoAttr X.K C fld) (lk : fs.lookup fld = some (.int k)) (h : Heap) (tk : Nat) (up : ∀ b o, s.heap.get? b = some o → h.get? b = some o) :
    wpAny (model X.prog X.w) A (call (.ref f) [.ref a]) (PySem.W.KeyPure (.int k) { s with heap := h, toks := tk }) (fun _ _ => False) { s with heap := h, toks := tk } := by
  obtain ⟨⟨pm, ctv, hfo⟩, _, _⟩ := I.hok f _ hf
  obtain ⟨⟨oc, vs, t, hoc, hdc, hvc⟩, _, _⟩ := I.hok c' _ hc
  obtain ⟨mA, O, r, _, _, _⟩ := ins_get I.hok ha
  obtain ⟨u, hu, ru⟩ := RelO.some_of (v := .int k) (o := mA fld) (by rw [← lk]; exact r fld)
  obtain ⟨tu, rfl⟩ := ru
  refine wpAny_call (codeAny_mono (R := fun r s' => ∃ v, r = .ok (.ret v) ∧ PySem.W.KeyPure (.int k) { s with heap := h, toks := tk } v s') ?_ fun r s' hq => ?_)
  · refine PySem.W.kla_callFunE hd (up _ _ hfo) rfl L.co L.gen rfl ⟨c', oc, vs, t, rfl, up _ _ hoc, hdc, hvc⟩ ?_
    rw [hbind]
    refine wpAny_pure (wpAny_newFunctionEnv L.own (fun y hy => ?_) (fun h₁ hns hsb => ⟨?_, ?_⟩) L.kind)
    · cases List.mem_singleton.mp hy
      exact L.loc
    · exact ((I.nolimit.keeps up)).fresh _ hsb
    · have kp : ∀ b o, h.get? b = some o → h₁.get? b = some o := fun b o e => (hsb.2 b (Nat.ne_of_lt (Heap.lt_size e))).trans (Heap.get?_push_of_some _ e)
      have kp2 : ∀ b o, s.heap.get? b = some o → h₁.get? b = some o := fun b o e => kp b o (up b o e)
      refine PySem.W.kla_codeExpr (attr_of (hb _) (wpAny_Name (wpAny_loadName_local L.kind L.loc hns (v := .ref a) ?_ ?_) hx))
      · simp
      · refine get_map (K := X.K) (mA := mA) ?_ ⟨kp2 _ _ O.obj, O.ns.at fun o q => kp2 _ _ q, O.ne⟩ (cl.get fld) cl.hd na hu (handed_of (v := .int k) ⟨tu, rfl⟩) ?_
        · exact PySem.W.Frag.In.keeps I.kIn kp2
        · exact ⟨_, rfl, _, _, rfl, kp, .int k tu⟩
  · obtain ⟨v, rfl, hv⟩ := hq
    exact hv
/-- y is an instance whose field is the number k -/
def KeyedAt (K : Fg) (H : Hp) (fld : Str) (y : V) (k : Int) : Prop := ∃ (a C dx : Addr) (fs : List (Str × V)), y = .ref a ∧ H a = some (.ins C dx fs) ∧ Cls K C ∧ NoAttr K C fld ∧ fs.lookup fld = some (.int k)
/-- sorted(xs, key=lambda x: x.fld) -/
def rSortedFld (K : Fg) (x fld q : Str) (ps : Arguments) (sc : Scope) (p1 p2 : Pos) : List V → List V → Hp → VK → Prop := fun vs zs H Q => ∃ (l f c' : Addr) (ys : List V) (ks : List Int), vs = [.ref l] ∧ zs = [.ref f] ∧ SqL K H l ys ∧
  H f = some (FunO f q ps (.Attribute (.Name x p1) fld p2) sc [] c') ∧ H c' = some (CodeO c' q) ∧ Paired (KeyedAt K H fld) ys ks ∧
  ∀ p, H p = none → Q (.ref p) (upd H p (.lst (((ys.zip ks).mergeSort fun a b => decide (a.2 ≤ b.2)).map (·.1))))
theorem zip_each {K : Fg} {H : Hp} {fld : Str} : ∀ {ys : List V} {ks : List Int} {its : List Value}, Vals ys its → Paired (KeyedAt K H fld) ys ks → PySem.W.EachIs (fun (v : Value) (b : V × Int) => RelV b.1 v ∧ KeyedAt K H fld b.1 b.2) its (ys.zip ks)
  | _, _, _, .nil, .nil => .nil
  | _, _, _, .cons r rs, .cons k ks => .cons ⟨r, k⟩ (zip_each rs ks)
theorem vals_each {K : Fg} {H : Hp} {fld : Str} : ∀ {out : List Value} {bs : List (V × Int)}, PySem.W.EachIs (fun (v : Value) (b : V × Int) => RelV b.1 v ∧ KeyedAt K H fld b.1 b.2) out bs → Vals (bs.map (·.1)) out
  | _, _, .nil => .nil
  | _, _, .cons h t => .cons h.1 (vals_each t)
theorem cr_sortedFld {q x fld : Str} {ps : Arguments} {sc : Scope} {p1 p2 : Pos} (hr : Room 1 X.A) (L : KeyL sc x)
    (hbind : ∀ pm cv ctv u, bindArgs (PySem.W.kla_fn "<lambda>" q ps (.Attribute (.Name x p1) fld p2) sc [] pm cv ctv) ⟨[u], []⟩ = pure [(x, u)]) (hb : ∀ env : Env, attributeBase (.Name x p1) fld env (eval (.Name x p1) env) = eval (.Name x p1) env) (hx : (x == ("__debug__" : Str)) = false) :
    CallRK X (.builtin "sorted") [Str.ofString "key"] (rSortedFld X.K x fld q ps sc p1 p2) := by
  intro pins s σ H vs zs us ws Q I r rz h
  obtain ⟨l, f, c', ys, ks, rfl, rfl, hs, hf, hc, pr, qk⟩ := h
  obtain rfl := Vals.ref1 r
  obtain ⟨w1, rfl, e1⟩ := vals1 rz
  obtain rfl : w1 = Value.ref f := e1
  obtain ⟨its, rv, hl, hz⟩ := I.list hs
  have ln : ys.length = ks.length := Paired.length pr
  have lz : (ys.zip ks).length = ys.length := by rw [List.length_zip, ← ln, Nat.min_self]
  refine PySem.W.sorted_key_data (β := V × Int) (b := false) (R := fun v b => RelV b.1 v ∧ KeyedAt X.K H fld b.1 b.2) (vs := its) (bs := ys.zip ks) (fun b => .int b.2) hl.isList (zip_each rv pr)
    (PySem.W.AllAlike.of fun _ _ => by simp [PySem.W.alike]) (PySem.W.Sortable.others fun _ => ⟨(fun z => nomatch z), fun _ z => nomatch z⟩) (by rw [lz]; exact hz) (fun b _ => ?_) (PyProof.Rows.ksk_s1 _ _) (fun _ => PyProof.Rows.ksk_l1 _ _) (fun _ => PyProof.Rows.ksk_t1 _ _) (fun v b hR _ h tk up => ?_) fun out c h' tk up hn hD hlen he => ?_
  · have := hr.un
    show X.A.units + 2 + 0 < cLine
    omega
  · obtain ⟨hv, a, C, dx, fs, e, ha, cl, na, lk⟩ := hR
    rw [e] at hv
    obtain rfl : v = Value.ref a := hv
    refine key_call I hf hc L ?_ hbind hb hx ha cl na lk h tk up
    have := hr.dp
    show X.A.depth < recursionLimit
    omega
  · rw [PySem.W.dataLe_int (fun b : V × Int => b.2)] at he
    have hl2 : (((ys.zip ks).mergeSort fun a b => decide (a.2 ≤ b.2)).map (·.1)).length ≤ sizeLine := by
      rw [List.length_map, List.length_mergeSort, lz]
      exact hz
    exact ⟨.ref _, upd H (s.heap.objs.size + 1) (.lst (((ys.zip ks).mergeSort fun a b => decide (a.2 ≤ b.2)).map (·.1))), I.laid up (Nat.le_succ _) ⟨hl2, out, c, vals_each he, hD⟩, rfl, qk _ (I.hok.fresh (Nat.le_succ _))⟩
end
end Tw
/-! Tw: classmethods: their facts as a Bool, C.m(), cls(e), cls(*e). -/
namespace Tw
open PySem PySem.Spec PyProof.Rows L2 He LamX
/-- the def behind the classmethod C.m -/
abbrev cmAt (K : Fg) (x m : Str) : Addr := He5.wf K (ga K x) "classmethod" m
def clsmB (K : Fg) (x m : Str) : Bool := He5.wrapB K (ga K x) "classmethod" "classmethod.__get__" m && PySem.W.fnIn K (cmAt K x m)
theorem clsmB_ok {K : Fg} {x m : Str} (h : clsmB K x m = true) : ClX.CMet K (ga K x) (.type "type") m (ma K (ga K x) m) (cmAt K x m) := by
  obtain ⟨h1, h2⟩ := ba h
  exact He5.cmet_of h1 h2
/-- a def behind a classmethod, as the head's data -/
def dCl (cls : Stmt) (j : Nat) (c m : Str) : DefA := ⟨fun K => cmAt K c m, m, c ++ "." ++ m, defArgs (inClass cls j), defBody (inClass cls j), defScope (inClass cls j), [], []⟩
theorem hfree_by {sc sc' : Scope} (h : (sc.names.all fun y => !decide (y.2 = NameKind.free) || (decide (sc'.names.lookup y.1 = some .cell) || decide (sc'.names.lookup y.1 = some .free))) = true) :
    ∀ y ∈ sc.names, y.2 = .free → sc'.names.lookup y.1 = some .cell ∨ sc'.names.lookup y.1 = some .free := fun y hy e => by
  have z := List.all_eq_true.mp h y hy
  rw [decide_eq_true e, Bool.not_true, Bool.false_or, Bool.or_eq_true] at z
  exact z.imp of_decide_eq_true of_decide_eq_true
section
variable {X : Cx} {CX : CXT} {k i : Nat} {C p g f : Addr} {mc : Value} {sp : Sp} {E : XK} {x m : Str} {o e : Expr} {es : List Expr} {pos apos np : Pos} {ta te : TE} {t : TA}
/-- o.m(), o the class at C -/
theorem pe_cmeth0 {pl : Sem Bool} (he : PE X o ta) (r : ClX.CRead X.K C mc) (c : ClX.CMet X.K C mc m p g) (F : FnR X.prog X.w X.K X.mg X.base CX k g sp) (hr : Room k X.A) (hx : Passes CX X E)
    (ht : eval (.Call (.Attribute o m apos) [] [] pos) X.env = (do
      let ov ← eval o X.env
      standAt apos.atName
      let (f, first) ← holding [ov] (getMethod ov m pl)
      callWith pos f first (backTo pos (starEach [] X.env)) (backToKw pos (keywordEach [] X.env))) := by rfl) :
    PE X (.Call (.Attribute o m apos) [] [] pos) (fun σ H Q => ta σ H fun x H1 => x = .ref C ∧ sp [.ref C] H1 Q E) := by
  refine ⟨fun pins s σ H Q I h => PySem.W.methodCall_KW (pl := pl) (thn (he.run pins s σ H _ I h) fun u s1 ⟨x, H1, I1, rx, ex, q⟩ => ?_) ht⟩
  subst ex
  obtain rfl : u = Value.ref C := rx
  refine ClX.getmethcm_ok I1 r c fun s2 I2 => ?_
  exact PySem.W.callWith_M0 (first := []) ⟨ClX.pin_at I2, I2.kIn⟩ c.fi (ClX.run_cm (us := []) (vs := []) F hr hx I2 .nil q)
/-- x(e, ..), x a local name that holds the class at C -/
theorem pe_makeV (M : Mk X.K C f) (F : FnR X.prog X.w X.K X.mg X.base CX k f sp) (hr : Room (k + 1) X.A) (hx : Passes CX X E) (hN : X.N[i]? = some x) (hv : Vis X.env.scope x) (ha : PA X (e :: es) t)
    (hd : (x == ("__debug__" : Str)) = false := by decide) (hcd : (x == ("__classdict__" : Str)) = false := by decide)
    (he : starEach (e :: es) X.env = (false, eval e X.env) :: starEach es X.env := by rfl) (hpl : (backTo pos (starEach es X.env)).any (·.1) = false := by rfl) :
    PE X (.Call (.Name x np) (e :: es) [] pos) (fun σ H Q => σ[i]? = some (some (.ref C)) ∧ StX.tMakeR C sp E t σ H Q) := by
  refine ⟨fun pins s σ H Q I h => wpAny_Call_Name_kw (thn ((pe_var (pos := np) (i := i) hN hv hd hcd).run pins s σ H (fun v H1 => v = .ref C ∧ H1 = H) I ⟨.ref C, h.1, rfl, rfl⟩) fun u s1 ⟨v, H1, I1, r1, ev, eH⟩ => ?_)⟩
  subst ev eH
  cases r1
  exact PySem.W.callWith_K (h₀ := X.base) I1.ok.mod.kin M.kp (thn (ha.run pos pins s1 σ _ _ I1 h.2) fun us s2 ⟨vs, H2, I2, r, q⟩ => ⟨I2.kIn, StX.run_makeR M F hr hx I2 r q⟩) he hpl
/-- x(*y), x a local name that holds the class at C -/
theorem pe_makeVS (M : Mk X.K C f) (F : FnR X.prog X.w X.K X.mg X.base CX k f sp) (hr : Room (k + 1) X.A) (hx : Passes CX X E) (hN : X.N[i]? = some x) (hv : Vis X.env.scope x) (he : PE X e te)
    (hd : (x == ("__debug__" : Str)) = false := by decide) (hcd : (x == ("__classdict__" : Str)) = false := by decide)
    (hst : starEach [.Starred e apos] X.env = [(true, eval e X.env)] := by rfl) :
    PE X (.Call (.Name x np) [.Starred e apos] [] pos) (fun σ H Q => σ[i]? = some (some (.ref C)) ∧ te σ H fun y H1 => ∃ a xs, y = V.ref a ∧ (SqT X.K H1 a xs ∨ SqL X.K H1 a xs) ∧ ∀ z dx, H1 z = none → H1 dx = none → dx ≠ z →
      sp (V.ref z :: xs) (upd (upd H1 dx (.own z)) z (.ins C dx [])) (fun v H2 => v = .non ∧ Q (.ref z) H2) E) := by
  refine ⟨fun pins s σ H Q I h => wpAny_Call_Name_kw (thn ((pe_var (pos := np) (i := i) hN hv hd hcd).run pins s σ H (fun v H1 => v = .ref C ∧ H1 = H) I ⟨.ref C, h.1, rfl, rfl⟩) fun u s1 ⟨v, H1, I1, r1, ev, eH⟩ => ?_)⟩
  subst ev eH
  cases r1
  refine PySem.W.callWith_S (h₀ := X.base) I1.ok.mod.kin M.kp (thn (he.run pins s1 σ _ _ I1 h.2) fun v s2 ⟨y, H2, I2, ry, a, xs, ey, hxs, q⟩ => ?_) hst
  subst ey
  obtain rfl : v = Value.ref a := ry
  exact StX.star_any I2 hxs fun us s3 I3 rv => ⟨I3.kIn, StX.run_makeR M F hr hx I3 rv q⟩
/-- x(*y), x a global class -/
theorem pe_makeGS (M : Mk X.K C f) (F : FnR X.prog X.w X.K X.mg X.base CX k f sp) (hr : Room (k + 1) X.A) (hx : Passes CX X E) (hg : Gl X x) (hm : X.mg x = some (.ref C)) (he : PE X e te) (hd : (x == ("__debug__" : Str)) = false := by decide)
    (hst : starEach [.Starred e apos] X.env = [(true, eval e X.env)] := by rfl) :
    PE X (.Call (.Name x np) [.Starred e apos] [] pos) (fun σ H Q => te σ H fun y H1 => ∃ a xs, y = V.ref a ∧ (SqT X.K H1 a xs ∨ SqL X.K H1 a xs) ∧ ∀ z dx, H1 z = none → H1 dx = none → dx ≠ z →
      sp (V.ref z :: xs) (upd (upd H1 dx (.own z)) z (.ins C dx [])) (fun v H2 => v = .non ∧ Q (.ref z) H2) E) := by
  refine ⟨fun pins s σ H Q I h => wpAny_Call_Name_kw (ld_glob I hg hm ?_ hd)⟩
  refine PySem.W.callWith_S (h₀ := X.base) I.ok.mod.kin M.kp (thn (he.run pins s σ _ _ I h) fun v s2 ⟨y, H2, I2, ry, a, xs, ey, hxs, q⟩ => ?_) hst
  subst ey
  obtain rfl : v = Value.ref a := ry
  exact StX.star_any I2 hxs fun us s3 I3 rv => ⟨I3.kIn, StX.run_makeR M F hr hx I3 rv q⟩
end
end Tw
/-! Tw: what stands while lambdas are made beside a pen; slices as take and drop. -/
namespace Tw
open PySem PySem.Spec PyProof.Rows L2 He LamX
/-- all but the tables and what stands at p stay -/
def ButN (p : Addr) (H H' : Hp) : Prop := ∀ b o, H b = some o → b ≠ p → (∀ ps, o ≠ .tbl ps) → H' b = some o
theorem ButN.refl (p : Addr) (H : Hp) : ButN p H H := fun _ _ e _ _ => e
theorem ButN.of {p : Addr} {H H' : Hp} (e : ExtN H H') : ButN p H H' := fun b o h _ n => e b o h n
theorem ButN.but {p : Addr} {H H' : Hp} (e : But p H H') : ButN p H H' := fun b o h n _ => e b o h n
theorem ButN.trans {p : Addr} {H H1 H2 : Hp} (a : ButN p H H1) (b : ButN p H1 H2) : ButN p H H2 := fun c o e h n => b c o (a c o e h n) h n
theorem tabs_but {T : List (Addr × Str)} {p : Addr} {H H' : Hp} (h : Tabs T H) (e : But p H H') (hp : ∀ ps, H p ≠ some (.tbl ps)) (hc : ∀ c q, H p ≠ some (CodeO c q)) : Tabs T H' := fun q hq => by
  obtain ⟨ps, h1, h2, h3⟩ := h q hq
  have n1 : q.1 ≠ p := fun z => hp ps (z ▸ h1)
  refine ⟨ps, e _ _ h1 n1, h2, fun pos cv hcv => ?_⟩
  obtain ⟨c, e1, e2⟩ := h3 pos cv hcv
  have n2 : c ≠ p := fun z => hc c q.2 (by rw [z] at e2 ⊢; exact e2)
  exact ⟨c, e1, e _ _ e2 n2⟩
theorem penN {H H' : Hp} {p l : Addr} {c : Nat} (P : PenL H p l c) (e : ExtN H H') : PenL H' p l c := by
  obtain ⟨ns, i, g, e1, e2, r⟩ := P
  exact ⟨ns, i, g, e _ _ e1 (fun _ z => nomatch z), e _ _ e2 (fun _ z => nomatch z), r⟩
theorem tabs_pen {T : List (Addr × Str)} {p l : Addr} {c : Nat} {H H' : Hp} (h : Tabs T H) (e : But p H H') (P : PenL H p l c) : Tabs T H' := by
  obtain ⟨ns, i, g, e1, _⟩ := P
  exact tabs_but h e (fun ps z => by rw [e1] at z; cases z) (fun c q z => by rw [e1] at z; exact nomatch z)
/-- the tables T, the pen at p; all else as it was at H0 -/
structure Lx (T : List (Addr × Str)) (H0 H : Hp) (p l : Addr) (c : Nat) : Prop where
  t : Tabs T H
  P : PenL H p l c
  b : ButN p H0 H
theorem Lx.same {T : List (Addr × Str)} {H0 H H' : Hp} {p l : Addr} {c : Nat} (S : Lx T H0 H p l c) (e : Same H H') : Lx T H0 H' p l c := ⟨S.t.ext e, S.P.same e, S.b.trans (ButN.but (But.of e))⟩
theorem Lx.ext {T : List (Addr × Str)} {H0 H H' : Hp} {p l : Addr} {c : Nat} (S : Lx T H0 H p l c) (e : ExtN H H') (t : Tabs T H') : Lx T H0 H' p l c := ⟨t, penN S.P e, S.b.trans (ButN.of e)⟩
theorem Lx.pen {T : List (Addr × Str)} {H0 H H' : Hp} {p l : Addr} {c c' : Nat} (S : Lx T H0 H p l c) (e : But p H H') (P : PenL H' p l c') : Lx T H0 H' p l c' := ⟨tabs_pen S.t e S.P, P, S.b.trans (ButN.but e)⟩
theorem Lx.mono {T : List (Addr × Str)} {H0 H : Hp} {p l : Addr} {c c' : Nat} (S : Lx T H0 H p l c) (h : c ≤ c') : Lx T H0 H p l c' := ⟨S.t, S.P.mono h, S.b⟩
theorem Lx.from {T : List (Addr × Str)} {H0 H1 H : Hp} {p l : Addr} {c : Nat} (b : ButN p H0 H1) (S : Lx T H1 H p l c) : Lx T H0 H p l c := ⟨S.t, S.P, b.trans S.b⟩
/-- a heap with one object changed that is no table and not the pen -/
theorem Lx.upd {T : List (Addr × Str)} {H0 H : Hp} {p l q : Addr} {c : Nat} {o : HO} {xs : List V} (S : Lx T H0 H p l c) (h0 : H0 q = none) (hq : H q = some (.lst xs)) (n1 : q ≠ p) (n2 : q ≠ l) : Lx T H0 (L2.upd H q o) p l c := by
  refine ⟨tabs_but (p := q) S.t But.upd (fun ps z => by rw [hq] at z; cases z) (fun c q' z => by rw [hq] at z; exact nomatch z), S.P.upd n1 n2, fun b u e hb ht => ?_⟩
  rw [upd_ne (ne_of_none e h0)]
  exact S.b b u e hb ht
theorem cutTake (xs : List V) (n : Nat) : cutV xs none (some ((n : Nat) : Int)) = xs.take n := by
  unfold cutV
  rw [HT.sIx_none, HT.sIx_nat, List.drop_zero, Nat.sub_zero]
  rcases Nat.le_total n xs.length with h | h
  · rw [Nat.min_eq_left h]
  · rw [Nat.min_eq_right h, List.take_of_length_le h, List.take_of_length_le (Nat.le_refl _)]
theorem cutDrop (xs : List V) (n : Nat) : cutV xs (some ((n : Nat) : Int)) none = xs.drop n := by
  unfold cutV
  rw [HT.sIx_none, HT.sIx_nat, List.take_of_length_le (by rw [List.length_drop]; exact Nat.le_refl _)]
  rcases Nat.le_total n xs.length with h | h
  · rw [Nat.min_eq_left h]
  · rw [Nat.min_eq_right h, List.drop_of_length_le h, List.drop_of_length_le (Nat.le_refl _)]
end Tw
/-! Tw: set comprehensions with one clause, whatever the set holds; those of ints. -/
namespace Tw
open PySem PySem.Spec PyProof.Rows L2 He
/-- an empty set is laid as o0 tells -/
def NewSet (P : Program) (w : World) (o0 : Addr → HO) : Prop := ∀ (H : Hp) (h : Heap), ObjOk P w (upd H h.objs.size (o0 h.objs.size)) (h.push { cls := .type "set", dict := none, data := .set #[] 0 (.fresh 0 0 (!w.params.followText "set-order")) }) h.objs.size (o0 h.objs.size)
/-- a member is put in as ad tells -/
def AddSet (P : Program) (w : World) (ad : V → Addr → Hp → (Hp → Prop) → Prop) : Prop := ∀ (Z : Cx) (_ : Z.prog = P) (_ : Z.w = w) {pins : List (Addr × Obj)} {σ : L2.St} {H : Hp} {s : Shared} {D : Addr} {y : V} {u : Value} {Nx : Hp → Prop} {Q E : Value → Shared → Prop},
  (∀ e s, Z.xe e s → E e s) → Inv Z pins σ H s → RelV y u → ad y D H Nx → (∀ H' s', Inv Z pins σ H' s' → Nx H' → Q .none s') → wpAny (model Z.prog Z.w) Z.A (call (.builtin "set.add") [.ref D, u]) Q E s
/-- {elt for target in iter if ..}: D the new set -/
def tSetC (o0 : Addr → HO) (ad : V → Addr → Hp → (Hp → Prop) → Prop) (wi : TI) (g : TG) (tt : TT) (te : TE) (vs : List Nat) : TE := fun σ H Q => wi σ H fun J H1 => ∀ D, H1 D = none →
  ∃ W : Nat → Nat → Hp → Prop, (∃ m, W 0 m (upd H1 D (o0 D))) ∧ ∀ i m H, W i m H → (J.stop i H ∧ Q (.ref D) H) ∨ (J.go i H ∧ ∃ Nx : Hp → Prop, (∀ H', Nx H' → ∃ m', m' < m ∧ W (i + 1) m' H') ∧
    ∀ x H', J.yld i H x H' → g x (wipe σ vs) H' fun σ2 H2 => wipe σ2 vs = wipe σ vs ∧ tt σ2 H2 fun b H3 => if b = true then te σ2 H3 fun y H4 => ad y D H4 Nx else Nx H3)
section
variable {X : Cx}
theorem setc_core {o0 : Addr → HO} {ad : V → Addr → Hp → (Hp → Prop) → Prop} (hnew : NewSet X.prog X.w o0) (hadd : AddSet X.prog X.w ad) {pins : List (Addr × Obj)} {s : Shared} {σ : L2.St} {H : Hp} {Q : VK} {elt tg iter : Expr} {ifs : List Expr} {scope : Scope} {own : List (PySem.Str × Nat)} {pos pos' : Pos} {wi : TI} {g : TG} {tt : TT} {te : TE} {use : Option (Value → Sem Unit)} {Qf : Value → Shared → Prop}
    (hc : X.calm = true) (hN : X.N.Nodup) (I : Inv X pins σ H s) (hi : PI X tg iter wi) (ok : BlkOk X.N X.env.scope scope own)
    (hg : ∀ (s : Shared) (H : Hp) (C : Addr) (cl : List (PySem.Str × Addr)) (fp : List Addr), PG (X.blk s H scope (compEnvC scope cl C X.env) fp) tg g) (ht : ∀ (s : Shared) (H : Hp) (C : Addr) (cl : List (PySem.Str × Addr)) (fp : List Addr), PTs (X.blk s H scope (compEnvC scope cl C X.env) fp) ifs tt)
    (he : ∀ (s : Shared) (H : Hp) (C : Addr) (cl : List (PySem.Str × Addr)) (fp : List Addr), PE (X.blk s H scope (compEnvC scope cl C X.env) fp) elt te) (hs : ∀ x, foldedSetIterable iter X.env x = pure x)
    (h : tSetC o0 ad wi g tt te (own.map (·.2)) σ H Q)
    (hRR : ∀ D C s' m H', Inv X pins σ H' s' → Q (.ref D) H' → s'.heap.Ns C m → FpOk X pins H' C → compPost (model X.prog X.w) X.A X.xe use Qf (.ref D) C (.ok .next) s') :
    wpAny (model X.prog X.w) X.A (comprehension (.SetComp elt [⟨tg, iter, ifs, 0⟩] scope pos) scope X.env pos' (newSet (.type "set")) false (eval iter X.env) use) Qf X.xe s := by
  have free1 : ∀ y ∈ scope.names, y.2 = .free → ∃ c, X.env.cells.lookup y.1 = some c := fun y hy e => (ok.free y hy e).elim (fun k => I.ok.has _ (.inl k)) fun k => I.ok.has _ (.inr k)
  refine wpAny_comprehension_free (use := use) rfl hs (closure_ok free1) ok.kind (fun y hy e => by rw [ok.uniq y hy, e])
    (thn (hi.run pins s σ H _ I h) fun xv u1 hx => thn hx fun itv u2 h2 => ?_)
  obtain ⟨it, fp, tn, J, G2, e, J2, T, q2, fa2, q⟩ := h2
  subst e
  refine PpSet.newSet_ok (newEnv_comp ?_)
  generalize eD : u2.heap.objs.size = D
  have nD : G2 D = none := J2.hok.fresh (Nat.le_of_eq eD)
  obtain ⟨W, ⟨m0, w00⟩, step1⟩ := q D nD
  -- the new list
  generalize es3 : ({ u2 with heap := u2.heap.push { cls := .type "set", dict := none, data := .set #[] 0 (.fresh 0 0 (!X.w.params.followText "set-order")) } } : Shared) = u3
  have J3 : Inv X pins σ (upd G2 D (o0 D)) u3 := by
    rw [← es3]
    refine J2.laid (t' := u2.toks) (fun b o e => Heap.get?_push_of_some _ e) (Nat.le_of_eq eD) ?_
    rw [← eD]
    exact hnew G2 u2.heap
  have e3 : u3.heap = u2.heap.push { cls := .type "set", dict := none, data := .set #[] 0 (.fresh 0 0 (!X.w.params.followText "set-order")) } := by rw [← es3]
  have szl : ∀ b ∈ fp, b < u2.heap.objs.size := fun b hb => by
    obtain ⟨o, e, _⟩ := T.obj _ _ q2 b hb
    exact Heap.lt_size e
  have fa3 : ∀ b ∈ fp, FpOk X pins (upd G2 D (o0 D)) b ∧ b < u3.heap.objs.size := fun b hb => by
    have hlt := szl b hb
    refine ⟨⟨?_, (fa2 b hb).2⟩, by rw [e3, Heap.size_push]; exact Nat.lt_succ_of_lt hlt⟩
    rw [upd_ne (by rw [← eD]; exact Nat.ne_of_lt hlt)]
    exact (fa2 b hb).1
  have q3 : tn 0 u3.heap := T.keep _ _ _ q2 fun b _ o e => by rw [e3]; exact Heap.get?_push_of_some _ e
  have J4 := block_start J3 ok hN fa3
  have tg1 := hg u3 (upd G2 D (o0 D)) u3.heap.objs.size (cellsFrom (u3.heap.objs.size + 1) scope.names (cloFrom X.env.cells scope.names [])) fp
  have tt1 := ht u3 (upd G2 D (o0 D)) u3.heap.objs.size (cellsFrom (u3.heap.objs.size + 1) scope.names (cloFrom X.env.cells scope.names [])) fp
  have te1 := he u3 (upd G2 D (o0 D)) u3.heap.objs.size (cellsFrom (u3.heap.objs.size + 1) scope.names (cloFrom X.env.cells scope.names [])) fp
  show codeAny _ _ (.compStart (.SetComp elt [⟨tg, iter, ifs, 0⟩] scope pos) 0 (.ref it) (.ref D) (compEnvC scope (cellsFrom (u3.heap.objs.size + 1) scope.names (cloFrom X.env.cells scope.names [])) u3.heap.objs.size X.env)) (compPost (model X.prog X.w) X.A X.xe use Qf (.ref D) u3.heap.objs.size) { u3 with heap := pushCells (u3.heap.push { cls := .type "dict", data := .dict #[] }) scope.names }
  have zfp : ∀ b ∈ fp, (upd G2 D (o0 D)) b = none := fun b hb => (fa3 b hb).1.1
  generalize ece : compEnvC scope (cellsFrom (u3.heap.objs.size + 1) scope.names (cloFrom X.env.cells scope.names [])) u3.heap.objs.size X.env = ce at J4 tg1 tt1 te1 ⊢
  have lc : ce.locals = u3.heap.objs.size := by subst ece; rfl
  generalize eG3 : upd G2 D (o0 D) = G3 at J3 J4 tg1 tt1 te1 w00 zfp fa3
  generalize es4 : ({ u3 with heap := pushCells (u3.heap.push { cls := .type "dict", data := .dict #[] }) scope.names } : Shared) = u4 at J4 ⊢
  have q4 : tn 0 u4.heap := T.keep _ _ _ q3 fun b _ o e => by rw [← es4]; exact pushCells_keeps _ _ _ _ (Heap.get?_push_of_some _ e)
  have fpo : ∀ {σ' : L2.St} {H' : Hp} {s' : Shared}, Inv (X.blk u3 G3 scope ce fp) [] σ' H' s' → (∀ b ∈ fp, H' b = none) → ∀ b ∈ fp, FpOk (X.blk u3 G3 scope ce fp) [] H' b := fun {σ' H' s'} I' hn b hb =>
    ⟨hn b hb, (I'.ok.exf b hb).1, I'.ok.exfs b hb, .inl hb, fun x c e => (I'.ok.exf b hb).2 x c e, fun p hp => absurd (show p ∈ ([] : List (Addr × Obj)) ++ [] from hp) (by simp)⟩
  have go1 : codeAny (model X.prog X.w) X.A (.compLoop (.SetComp elt [⟨tg, iter, ifs, 0⟩] scope pos) 0 (.ref it) (.ref D) ce) (compPost (model X.prog X.w) X.A X.xe use Qf (.ref D) u3.heap.objs.size) u4 := by
    refine PpSet.compLoopS_any (fun n s' => ∃ i H', Inv (X.blk u3 G3 scope ce fp) [] (wipe σ (own.map (·.2))) H' s' ∧ tn i s'.heap ∧ (∀ b ∈ fp, H' b = none) ∧ W i n H') ?_ m0 ⟨0, G3, J4, q4, zfp, w00⟩
    rintro n u5 ⟨i, G5, J5, q5, n5, w5⟩
    rcases step1 i n G5 w5 with ⟨stop, qq⟩ | ⟨go, Nx, hNx, step⟩
    · have dn := T.done (X.blk u3 G3 scope ce fp) rfl rfl rfl hc i [] u5 _ G5 (fun _ _ => False) J5 (fpo J5 n5) q5 stop
      refine thnF dn fun r u6 ⟨hr, J6⟩ => ?_
      subst hr
      -- back in the def's context
      have J7 : Inv X pins σ G5 u6 := J3.call' (ch := fp) J6.os J6.base J6.hok J6.bare fun b hb => ⟨(fa3 b hb).1.2.2.2.1, (fa3 b hb).1.2.1, (fa3 b hb).1.2.2.2.2.1, (fa3 b hb).1.2.2.2.2.2⟩
      have nC : G5 u3.heap.objs.size = none := by
        have z : G5 ce.locals = none := J6.free
        rw [lc] at z
        exact z
      obtain ⟨m, hn, _⟩ := J6.loc
      have hn : u6.heap.Ns ce.locals m := hn
      rw [lc] at hn
      exact hRR D u3.heap.objs.size u6 m G5 J7 qq hn (J3.fpOk (Nat.le_refl _) nC)
    · have it1 := T.item (X.blk u3 G3 scope ce fp) rfl rfl rfl hc i [] u5 _ G5 (fun _ _ => False) J5 (fpo J5 n5) q5 go
      refine thnF it1 fun r u6 ⟨u, hr, h6⟩ => ?_
      subst hr
      refine thnF h6 fun _ u7 ⟨x, G7, J7, r7, y7, q7, n7⟩ => ?_
      have J7' := J7.pinned (fpo J7 n7) (T.obj _ _ q7)
      refine thnF (tg1.run _ u7 _ G7 x u _ J7' r7 (step x G7 y7)) fun _ u8 ⟨σ8, G8, J8, hw8, q8⟩ => ?_
      refine thnF (tt1.run _ u8 σ8 G8 _ J8 q8) fun b u9 ⟨G9, J9, q9⟩ => ?_
      -- the turn's end
      have endt : ∀ {s' : Shared} {H' : Hp}, Inv (X.blk u3 G3 scope ce fp) ([] ++ pinsAt fp u7.heap) σ8 H' s' → Nx H' → ∃ m, m < n ∧ ∃ i H', Inv (X.blk u3 G3 scope ce fp) [] (wipe σ (own.map (·.2))) H' s' ∧ tn i s'.heap ∧ (∀ b ∈ fp, H' b = none) ∧ W i m H' := fun {s' H'} I' nx => by
        obtain ⟨m', hm, w'⟩ := hNx H' nx
        have pin' : ∀ b ∈ fp, ∀ o, u7.heap.get? b = some o → s'.heap.get? b = some o ∧ H' b = none := fun b hb o e =>
          let z := I'.pin (b, o) (List.mem_append_right _ (List.mem_append_right _ (mem_pinsAt hb e)))
          ⟨z.1, z.2.1⟩
        have hl : (wipe σ (own.map (·.2))).length = σ8.length := by rw [← hw8, wipe_length]
        refine ⟨m', hm, i + 1, H', (I'.unpinned (pins := [])).weak hl (fun j v e => ?_), T.keep _ _ _ q7 fun b hb o e => (pin' b hb o e).1, fun b hb => ?_, w'⟩
        · rw [← hw8] at e
          exact (wipe_some e).1
        · obtain ⟨o, e, _⟩ := T.obj _ _ q7 b hb
          exact (pin' b hb o e).2
      cases b with
      | false =>
        simp only [Bool.false_eq_true, if_false] at q9 ⊢
        exact endt J9 q9
      | true =>
        simp only [if_true] at q9 ⊢
        refine thnF (te1.run _ u9 σ8 G9 _ J9 q9) fun z u10 ⟨yv, G10, J10, r10, nx⟩ => ?_
        exact hadd (X.blk u3 G3 scope ce fp) rfl rfl (fun _ _ z => False.elim z) J10 r10 nx fun H' u11 J11 nx' => endt J11 nx'
  exact PpSet.codeAny_compStart_set go1 (T.self X.A 0 _ _ _ q4 go1)
/-- as a value -/
theorem pe_setc {o0 : Addr → HO} {ad : V → Addr → Hp → (Hp → Prop) → Prop} {elt tg iter : Expr} {ifs : List Expr} {scope : Scope} {own : List (PySem.Str × Nat)} {pos : Pos} {wi : TI} {g : TG} {tt : TT} {te : TE} (hnew : NewSet X.prog X.w o0) (hadd : AddSet X.prog X.w ad) (hc : X.calm = true) (hN : X.N.Nodup) (hi : PI X tg iter wi) (ok : BlkOk X.N X.env.scope scope own)
    (hg : ∀ (s : Shared) (H : Hp) (C : Addr) (cl : List (PySem.Str × Addr)) (fp : List Addr), PG (X.blk s H scope (compEnvC scope cl C X.env) fp) tg g)
    (ht : ∀ (s : Shared) (H : Hp) (C : Addr) (cl : List (PySem.Str × Addr)) (fp : List Addr), PTs (X.blk s H scope (compEnvC scope cl C X.env) fp) ifs tt)
    (he : ∀ (s : Shared) (H : Hp) (C : Addr) (cl : List (PySem.Str × Addr)) (fp : List Addr), PE (X.blk s H scope (compEnvC scope cl C X.env) fp) elt te)
    (hs : ∀ x, foldedSetIterable iter X.env x = pure x := by intro _; rfl) : PE X (.SetComp elt [⟨tg, iter, ifs, 0⟩] scope pos) (tSetC o0 ad wi g tt te (own.map (·.2))) := by
  refine ⟨fun pins s σ H Q I h => ?_⟩
  rw [PpSet.eval_SetComp]
  refine setc_core hnew hadd hc hN I hi ok hg ht he hs h fun D C s' m H' I' q hn f => ⟨m, hn, fun h'' sb => ?_⟩
  obtain ⟨z0, z1, z2, z3, z4, z5⟩ := f
  exact ⟨.ref D, H', I'.turned (t' := s'.toks) (fun b o hb e => (sb.2 b hb).trans e) z0 z1 z3 z4 z5, rfl, q⟩
/-- over a sequence that the block leaves as it is -/
theorem setc_tup {o0 : Addr → HO} {ad : V → Addr → Hp → (Hp → Prop) → Prop} {K : PySem.W.Frag} {a : Addr} {xs : List V} {g : TG} {tt : TT} {te : TE} {vs : List Nat} {σ : L2.St} {H1 : Hp} {D : Addr} {Qd : Hp → Prop} (Pv : Nat → Hp → Prop) (h0 : Pv 0 (upd H1 D (o0 D))) (hl : ∀ i H, i ≤ xs.length → Pv i H → SqT K H a xs)
    (hs : ∀ i x H, xs[i]? = some x → Pv i H → g x (wipe σ vs) H fun σ2 H2 => wipe σ2 vs = wipe σ vs ∧ tt σ2 H2 fun b H3 => if b = true then te σ2 H3 fun y H4 => ad y D H4 (Pv (i + 1)) else Pv (i + 1) H3) (hd : ∀ H, Pv xs.length H → Qd H) :
    ∃ W : Nat → Nat → Hp → Prop, (∃ m, W 0 m (upd H1 D (o0 D))) ∧ ∀ i m H, W i m H → ((Itt K a).stop i H ∧ Qd H) ∨ ((Itt K a).go i H ∧ ∃ Nx : Hp → Prop, (∀ H', Nx H' → ∃ m', m' < m ∧ W (i + 1) m' H') ∧
      ∀ x H', (Itt K a).yld i H x H' → g x (wipe σ vs) H' fun σ2 H2 => wipe σ2 vs = wipe σ vs ∧ tt σ2 H2 fun b H3 => if b = true then te σ2 H3 fun y H4 => ad y D H4 Nx else Nx H3) := by
  refine ⟨fun i m H => m = xs.length - i ∧ i ≤ xs.length ∧ Pv i H, ⟨xs.length, by omega, Nat.zero_le _, h0⟩, fun i m H ⟨em, hi, p⟩ => ?_⟩
  subst em
  have q := hl i H hi p
  rcases Nat.lt_or_eq_of_le hi with hlt | e
  · refine .inr ⟨⟨xs, xs[i], q, List.getElem?_eq_getElem hlt⟩, Pv (i + 1), fun H' p' => ⟨xs.length - (i + 1), by omega, rfl, hlt, p'⟩, fun x H' y => ?_⟩
    obtain ⟨e, y⟩ := y
    subst e
    exact hs i x _ (y xs q) p
  · subst e
    exact .inl ⟨⟨xs, q, Nat.le_refl _⟩, hd H p⟩
end
/-! ### sets of ints -/
theorem newInts {P : Program} {w : World} : NewSet P w (fun D => SetO w D (fun _ => false) 0) := fun H h => setO_new (setR_fresh w)
def adInt (w : World) : V → Addr → Hp → (Hp → Prop) → Prop := fun y D H Nx => ∃ (k : Int) (S : Int → Bool) (n : Nat), y = .int k ∧ H D = some (SetO w D S n) ∧ n + 1 < scanBound ∧ Nx (upd H D (SetO w D (fun j => S j || decide (j = k)) (if S k = true then n else n + 1)))
theorem addInts {P : Program} {w : World} : AddSet P w (adInt w) := by
  intro Z e1 e2 pins σ H s D y u Nx Q E hE I r h k
  subst e1 e2
  obtain ⟨i, S, n, rfl, hD, hn, nx⟩ := h
  refine wpAny_mono (mt_sadd (X := Z) pins s σ H (.ref D) [.int i] (.ref D) [u] (fun v H' => v = .non ∧ Nx H') I rfl (.cons r .nil) ⟨D, i, S, n, rfl, rfl, hD, hn, rfl, nx⟩) (fun v s' z => ?_) hE
  obtain ⟨v', H', I', rv, rfl, nx'⟩ := z
  cases (show v = Value.none from rv)
  exact k H' s' I' nx'
end Tw
namespace K10
open PySem PySem.Spec PyProof.Rows L2 He Tw
def topS (i : Nat) : Stmt := PySem.Challenge.pw_twoheads_k10_whole_histories_of_rows.main.body.getD i (.Pass ⟨0, 0, 0, 0⟩)
def dM (c : Str) (i j : Nat) (m : Str) (dvs : List Dv) : DefA := ⟨fun K => ma K (ga K c) m, m, c ++ "." ++ m, defArgs (inClass (topS i) j), defBody (inClass (topS i) j), defScope (inClass (topS i) j), dvs, []⟩
def dF (x : Str) (i : Nat) : DefA := ⟨fun K => ga K x, x, x, defArgs (topS i), defBody (topS i), defScope (topS i), [], []⟩
/-- the errors with one field -/
def errs : List (Str × Nat × Str) := [("BadItem", 5, "part"), ("BadPlace", 6, "at"), ("Disordered", 7, "at"), ("TooMany", 8, "most")]
def clss : List Str := ["HeadsError", "BadInput", "Refused", "BadItem", "BadPlace", "Disordered", "TooMany", "Item", "Row", "Trial"]
def fnames : List Str := ["is_lettered", "is_number", "is_rank", "as_items", "need_row", "by_rank", "taken", "taken_of_rank", "joined", "_law_pen", "_law_draw", "_law_pick", "_law_pairs", "_law_values", "_law_told", "_law_heard", "_law_bag", "_law_fall", "_law_step", "_law_do", "_law_deed", "_law_values_of", "_law_all", "_law_tried", "_law_agrees", "law"]
def blts : List Str := ["list", "int", "len", "abs", "isinstance", "range", "str", "bool", "all", "enumerate", "tuple", "sorted", "iter", "sum", "max"]
def kinds : List String := ["NoneType", "bool", "int", "str", "list", "tuple", "dict"]
/-- where the empty tuple stands that Row.__init__ has as its default -/
def nilAt (K : Fg) : Addr := match K.lookup (ma K (ga K "Row") "__init__") with
  | some ⟨_, _, .func fd, _⟩ => (match fd.defaults with
    | .ref t => (match K.lookup t with
      | some ⟨_, _, .seq its _, _⟩ => (match its.toList with
        | .ref e :: _ => e
        | _ => 0)
      | _ => 0)
    | _ => 0)
  | _ => 0
def nilB (K : Fg) : Bool := match K.lookup (nilAt K) with
  | some ⟨.type c, _, .seq its _, _⟩ => decide (c = "tuple") && its.toList.isEmpty
  | _ => false
def mostB (K : Fg) : Bool := match PySem.W.findIn K (.ref (ga K "Row")) "MOST" with
  | some (some (.int i t)) => decide (i = 200) && eqO (PySem.W.specialIn K (.int i t) "__get__") (some none)
  | _ => false
theorem nilB_ok {K : Fg} (h : nilB K = true) (H : Hp) : SqT K H (nilAt K) [] := by
  unfold nilB at h
  cases q : K.lookup (nilAt K) with
  | none =>
    rw [q] at h
    cases h
  | some o =>
    obtain ⟨oc, od, dt, sl⟩ := o
    rw [q] at h
    cases oc with
    | type c =>
      cases dt with
      | seq its n =>
        obtain ⟨h1, h2⟩ := ba h
        have e1 := of_decide_eq_true h1
        subst e1
        have e2 : its.toList = [] := List.isEmpty_iff.mp h2
        refine .inr ⟨_, its, n, q, rfl, rfl, ?_, ?_⟩
        · have e3 : its.size = 0 := by
            rw [← Array.length_toList, e2]
            rfl
          rw [e3]
          exact Nat.zero_le _
        · rw [e2]
          exact .nil
      | _ => cases h
    | _ => cases h
theorem mostB_ok {K : Fg} (h : mostB K = true) : ∃ u, Con K (ga K "Row") "MOST" (.int 200) u := by
  unfold mostB at h
  cases q : PySem.W.findIn K (.ref (ga K "Row")) "MOST" with
  | none =>
    rw [q] at h
    cases h
  | some o =>
    rw [q] at h
    cases o with
    | none => cases h
    | some v =>
      cases v with
      | int i t =>
        obtain ⟨h1, h2⟩ := ba h
        have e := of_decide_eq_true h1
        subst e
        exact ⟨_, q, ⟨_, rfl⟩, eqO_ok h2, by decide +kernel⟩
      | _ => cases h
def fn : List DefA := errs.map (fun e => dM e.1 e.2.1 0 "__init__" []) ++ [dM "Item" 17 0 "__init__" [.str ""], dM "Item" 17 3 "before" [], dM "Row" 27 1 "__init__" [.adr nilAt], dM "Row" 27 4 "__iter__" [], dM "Row" 27 10 "listed" [],
  dM "Row" 27 17 "__iadd__" [], dM "Row" 27 20 "__ior__" [], dM "Row" 27 23 "__iand__" [], dM "Row" 27 26 "__isub__" [], dM "Row" 27 29 "__ixor__" [],
  dF "is_lettered" 12, dF "is_number" 15, dF "is_rank" 16, dF "as_items" 19, dF "need_row" 20, dF "by_rank" 21, dF "taken" 22, dF "taken_of_rank" 23, dF "joined" 28,
  dF "_law_pen" 31, dF "_law_draw" 32, dF "_law_pick" 33, dF "_law_pairs" 34, dF "_law_values" 35, dF "_law_told" 36, dF "_law_heard" 37, dF "_law_bag" 38, dF "_law_fall" 39, dF "_law_step" 40, dF "_law_do" 41, dF "_law_deed" 42, dF "_law_values_of" 43, dF "_law_all" 44, dF "_law_tried" 45, dF "_law_agrees" 46, dM "Row" 27 11 "ranks" [], dM "Row" 27 12 "number" [], dF "law" 47,
  dM "Row" 27 3 "__len__" [], dM "Row" 27 5 "__getitem__" [], dM "Row" 27 6 "stretch" [], dM "Row" 27 7 "__setitem__" [], dM "Row" 27 32 "settle" [], dM "Row" 27 33 "trial" [], dM "Row" 27 34 "attempt" [], dM "Trial" 25 0 "__init__" [], dM "Trial" 25 1 "__enter__" [], dM "Trial" 25 2 "__exit__" [], dM "Row" 27 13 "blocks" [], dM "Row" 27 9 "__eq__" []]
def letters : Str := "abcdefghijklmnopqrstuvwxyz"
def beyond : Int := 10 ^ 30
/-- where lambdas are made -/
def tabs : List (Fg → Addr) := [fun K => ga K "_law_do", fun K => ga K "_law_tried", fun K => ga K "law", fun K => ma K (ga K "Row") "settle"]
def fs : Fz := [fun K => clss.all fun x => (Fa.glo x).ok K, fun K => fnames.all fun x => (Fa.glo x).ok K, fun K => blts.all fun x => (Fa.free x).ok K, fun K => (Fa.int "BEYOND" beyond).ok K, fun K => (Fa.int "LONGEST" 8).ok K, fun K => (Fa.str "LETTERS" letters).ok K,
  fun K => errs.all fun e => (Fy.xc e.1).ok K, fun K => Fy.xo.ok K, fun K => errs.all fun e => (Fy.ini e.1).ok K, fun K => errs.all fun e => (Fy.names e.1 [e.2.2]).ok K, fun K => errs.all fun e => errs.all fun d => (Fy.kit e.1 d.1 (decide (e.1 = d.1))).ok K,
  fun K => errs.all fun e => decide (PySem.W.exmOne K (.ref (ga K e.1)) (.ref (ga K "HeadsError")) = some true),
  fun K => kinds.all fun t => decide (PySem.W.kitOne K (.type t) (.ref (ga K "Item")) = some false) && errs.all fun e => decide (PySem.W.kitOne K (.type t) (.ref (ga K e.1)) = some false),
  fun K => (Fy.kit "Item" "Item" true).ok K, fun K => (Fy.kit "Row" "Row" true).ok K, fun K => PySem.W.notFirst K (ga K "Row") (.ref (ga K "Row")),
  fun K => (Fa.cls "Item").ok K, fun K => (Fa.mkr "Item").ok K, fun K => (["rank", "name"] : List Str).all fun f => (Fa.noat "Item" f).ok K, fun K => (Fa.meth "Item" "before").ok K,
  fun K => (Fa.cls "Row").ok K, fun K => (Fa.mkr "Row").ok K, fun K => (Fa.noat "Row" "state").ok K, fun K => (["listed", "__iter__"] : List Str).all fun m => (Fa.meth "Row" m).ok K,
  fun K => (["Item", "Row"] : List Str).all fun c => decide (PySem.W.mroIn K (ga K c) (.type "object") = some true) && eqO (PySem.W.findIn K (.ref (ga K c)) "__class__") (some (some (.builtin "object.__class__"))), nilB, mostB,
  fun K => (["__iadd__", "__ior__", "__iand__", "__isub__", "__ixor__"] : List Str).all fun m => ownB K "Row" m,
  fun K => tabs.all fun f => tabB K (f K), fun K => (["list", "tuple"] : List String).all fun t => decide (PySem.W.kitOne K (.type t) (.ref (ga K "Row")) = some false),
  fun K => (Fa.cls "Trial").ok K, fun K => (Fa.mkr "Trial").ok K, fun K => (["owner", "kept"] : List Str).all fun f => (Fa.noat "Trial" f).ok K, fun K => (["__enter__", "__exit__"] : List Str).all fun m => (Fa.meth "Trial" m).ok K, fun K => (["__len__", "__getitem__", "stretch", "__setitem__", "settle", "trial", "attempt"] : List Str).all fun m => (Fa.meth "Row" m).ok K, fun K => PySem.W.noSeq K (ga K "Row"),
  fun K => decide ((tabs.map fun f => tabAt K (f K)).Nodup), fun K => (["number", "ranks", "blocks", "__eq__"] : List Str).all fun m => (Fa.meth "Row" m).ok K]
/-- what the walk asks of the written part and of the module's names -/
structure Txt (K : Fg) (mg : Str → Option Value) : Prop where
  c : SaysZ fs fn K
  gl : ∀ x, (Fa.glo x).ok K = true → mg x = some (.ref (ga K x))
  fr : ∀ x, (Fa.free x).ok K = true → mg x = none
  nt : ∀ x i, (Fa.int x i).ok K = true → ∃ t, mg x = some (.int i t)
  tx : ∀ x z, (Fa.str x z).ok K = true → ∃ t, mg x = some (.str z t)
section
variable {K : Fg} {mg : Str → Option Value}
theorem Txt.cl (T : Txt K mg) {x : Str} (h : x ∈ clss) : mg x = some (.ref (ga K x)) := T.gl x (of_all (f := fun x => (Fa.glo x).ok K) (T.c.fact 0) h)
theorem Txt.fn (T : Txt K mg) {x : Str} (h : x ∈ fnames) : mg x = some (.ref (ga K x)) := T.gl x (of_all (f := fun x => (Fa.glo x).ok K) (T.c.fact 1) h)
theorem Txt.bl (T : Txt K mg) {x : Str} (h : x ∈ blts) : mg x = none := T.fr x (of_all (f := fun x => (Fa.free x).ok K) (T.c.fact 2) h)
theorem Txt.beyond (T : Txt K mg) : ∃ t, mg "BEYOND" = some (.int K10.beyond t) := T.nt _ _ (T.c.fact 3)
theorem Txt.longest (T : Txt K mg) : ∃ t, mg "LONGEST" = some (.int 8 t) := T.nt _ _ (T.c.fact 4)
theorem Txt.letters (T : Txt K mg) : ∃ t, mg "LETTERS" = some (.str K10.letters t) := T.tx _ _ (T.c.fact 5)
theorem Txt.xc (T : Txt K mg) {e : Str × Nat × Str} (h : e ∈ errs) : XC K (ga K e.1) := xc_ok (of_all (f := fun e : Str × Nat × Str => (Fy.xc e.1).ok K) (T.c.fact 6) h)
theorem Txt.xo (T : Txt K mg) : XO K := xo_ok (T.c.fact 7)
theorem Txt.ini (T : Txt K mg) {e : Str × Nat × Str} (h : e ∈ errs) : PySem.W.findIn K (.ref (ga K e.1)) "__init__" = some (some (.ref (ma K (ga K e.1) "__init__"))) ∧ PySem.W.typeIn K (.ref (ma K (ga K e.1) "__init__")) = some (.type "function") := ini_ok (of_all (f := fun e : Str × Nat × Str => (Fy.ini e.1).ok K) (T.c.fact 8) h)
theorem Txt.no (T : Txt K mg) {e : Str × Nat × Str} (h : e ∈ errs) : PySem.W.findIn K (.ref (ga K e.1)) e.2.2 = some none := names_ok (of_all (f := fun e : Str × Nat × Str => (Fy.names e.1 [e.2.2]).ok K) (T.c.fact 9) h) List.mem_cons_self
theorem Txt.kit (T : Txt K mg) {e d : Str × Nat × Str} (h : e ∈ errs) (g : d ∈ errs) : PySem.W.kitOne K (.ref (ga K e.1)) (.ref (ga K d.1)) = some (decide (e.1 = d.1)) := kit_ok (of_all (f := fun d : Str × Nat × Str => (Fy.kit e.1 d.1 (decide (e.1 = d.1))).ok K) (of_all (f := fun e : Str × Nat × Str => errs.all fun d => (Fy.kit e.1 d.1 (decide (e.1 = d.1))).ok K) (T.c.fact 10) h) g)
theorem Txt.exm (T : Txt K mg) {e : Str × Nat × Str} (h : e ∈ errs) : PySem.W.exmOne K (.ref (ga K e.1)) (.ref (ga K "HeadsError")) = some true := of_decide_eq_true (of_all (f := fun e : Str × Nat × Str => decide (PySem.W.exmOne K (.ref (ga K e.1)) (.ref (ga K "HeadsError")) = some true)) (T.c.fact 11) h)
theorem Txt.kind (T : Txt K mg) {t : String} (h : t ∈ kinds) : PySem.W.kitOne K (.type t) (.ref (ga K "Item")) = some false ∧ ∀ e ∈ errs, PySem.W.kitOne K (.type t) (.ref (ga K e.1)) = some false := by
  obtain ⟨a, b⟩ := ba (List.all_eq_true.mp (T.c.fact 12) t h)
  exact ⟨of_decide_eq_true a, fun e he => of_decide_eq_true (List.all_eq_true.mp b e he)⟩
theorem Txt.kitII (T : Txt K mg) : PySem.W.kitOne K (.ref (ga K "Item")) (.ref (ga K "Item")) = some true := kit_ok (T.c.fact 13)
theorem Txt.kitRR (T : Txt K mg) : PySem.W.kitOne K (.ref (ga K "Row")) (.ref (ga K "Row")) = some true := kit_ok (T.c.fact 14)
theorem Txt.nfR (T : Txt K mg) : PySem.W.notFirst K (ga K "Row") (.ref (ga K "Row")) = true := T.c.fact 15
theorem Txt.cls (T : Txt K mg) : Cls K (ga K "Item") := cls_ok (T.c.fact 16)
theorem Txt.mkI (T : Txt K mg) : Mk K (ga K "Item") (ma K (ga K "Item") "__init__") := mkr_ok (T.c.fact 17)
theorem Txt.na (T : Txt K mg) {f : Str} (h : f ∈ (["rank", "name"] : List Str)) : NoAttr K (ga K "Item") f := noat_ok (List.all_eq_true.mp (T.c.fact 18) f h)
theorem Txt.mtB (T : Txt K mg) : Meth K (ga K "Item") "before" (ma K (ga K "Item") "before") := meth_ok (T.c.fact 19)
theorem Txt.clsR (T : Txt K mg) : Cls K (ga K "Row") := cls_ok (T.c.fact 20)
theorem Txt.mkR (T : Txt K mg) : Mk K (ga K "Row") (ma K (ga K "Row") "__init__") := mkr_ok (T.c.fact 21)
theorem Txt.naR (T : Txt K mg) : NoAttr K (ga K "Row") "state" := noat_ok (T.c.fact 22)
theorem Txt.mtR (T : Txt K mg) {m : Str} (h : m ∈ (["listed", "__iter__"] : List Str)) : Meth K (ga K "Row") m (ma K (ga K "Row") m) := meth_ok (List.all_eq_true.mp (T.c.fact 23) m h)
theorem Txt.ob (T : Txt K mg) {c : Str} (h : c ∈ (["Item", "Row"] : List Str)) : PySem.W.mroIn K (ga K c) (.type "object") = some true ∧ PySem.W.findIn K (.ref (ga K c)) "__class__" = some (some (.builtin "object.__class__")) := by
  obtain ⟨a, b⟩ := ba (List.all_eq_true.mp (T.c.fact 24) c h)
  exact ⟨of_decide_eq_true a, eqO_ok b⟩
theorem Txt.nil (T : Txt K mg) (H : Hp) : SqT K H (nilAt K) [] := nilB_ok (T.c.fact 25) H
theorem Txt.most (T : Txt K mg) : ∃ u, Con K (ga K "Row") "MOST" (.int 200) u := mostB_ok (T.c.fact 26)
theorem Txt.own (T : Txt K mg) {m : Str} (h : m ∈ (["__iadd__", "__ior__", "__iand__", "__isub__", "__ixor__"] : List Str)) : OwnB K (ga K "Row") m (ma K (ga K "Row") m) := ownB_ok (List.all_eq_true.mp (T.c.fact 27) m h)
theorem Txt.tab (T : Txt K mg) {f : Fg → Addr} (h : f ∈ tabs) : tabB K (f K) = true := List.all_eq_true.mp (T.c.fact 28) f h
theorem Txt.clsT (T : Txt K mg) : Cls K (ga K "Trial") := cls_ok (T.c.fact 30)
theorem Txt.mkT (T : Txt K mg) : Mk K (ga K "Trial") (ma K (ga K "Trial") "__init__") := mkr_ok (T.c.fact 31)
theorem Txt.naT (T : Txt K mg) {f : Str} (h : f ∈ (["owner", "kept"] : List Str)) : NoAttr K (ga K "Trial") f := noat_ok (List.all_eq_true.mp (T.c.fact 32) f h)
theorem Txt.mtT (T : Txt K mg) {m : Str} (h : m ∈ (["__enter__", "__exit__"] : List Str)) : Meth K (ga K "Trial") m (ma K (ga K "Trial") m) := meth_ok (List.all_eq_true.mp (T.c.fact 33) m h)
theorem Txt.noSeq (T : Txt K mg) : PySem.W.noSeq K (ga K "Row") = true := T.c.fact 35
theorem Txt.mtR2 (T : Txt K mg) {m : Str} (h : m ∈ (["__len__", "__getitem__", "stretch", "__setitem__", "settle", "trial", "attempt"] : List Str)) : Meth K (ga K "Row") m (ma K (ga K "Row") m) := meth_ok (List.all_eq_true.mp (T.c.fact 34) m h)
theorem Txt.tabnd (T : Txt K mg) : (tabs.map fun f => tabAt K (f K)).Nodup := of_decide_eq_true (T.c.fact 36)
theorem Txt.mtN (T : Txt K mg) {m : Str} (h : m ∈ (["number", "ranks", "blocks", "__eq__"] : List Str)) : Meth K (ga K "Row") m (ma K (ga K "Row") m) := meth_ok (List.all_eq_true.mp (T.c.fact 37) m h)
theorem Txt.kitR (T : Txt K mg) {t : String} (h : t ∈ (["list", "tuple"] : List String)) : PySem.W.kitOne K (.type t) (.ref (ga K "Row")) = some false := of_decide_eq_true (List.all_eq_true.mp (T.c.fact 29) t h)
end
abbrev s_draw : Stmt := topS 32
abbrev N_draw : List Str := ["_law_pen_here", "_law_many", "_law_digit", "_law_at", "_law_cell", "_law_great", "_law_mixed"]
theorem sc_draw : FnScope N_draw ["_law_pen_here", "_law_many"] (defScope s_draw) := ⟨rfl, rfl, rfl, by decide +kernel, rfl, by decide +kernel, by decide +kernel⟩
section
variable {P : Program} {w : World} {K : Fg} {mg : Str → Option Value} {base : Heap}
theorem ok_draw {f : Addr} {fd : FuncData} (F : FnP K "_law_draw" "_law_draw" s_draw f fd) (T : Txt K mg) : FnOk P w K mg base CX0 1 f fd ["_law_pen_here", "_law_many"] spDrawL := by
  have zint : mg "int" = none := T.bl (by decide +kernel)
  have zlen : mg "len" = none := T.bl (by decide +kernel)
  have zabs : mg "abs" = none := T.bl (by decide +kernel)
  refine F.ok sc_draw (fun vs H Q E h => ?_) (fun cdv A outer s H vs Q E hr h => ?_)
  · obtain ⟨p, l, m, c, rfl, _⟩ := h
    rfl
  · obtain ⟨p, l, m, c, rfl, hm0, hm1, ⟨ns, i, g, hp, hl, hlp, hn, hi0, hic, hg0⟩, hc, k⟩ := h
    have hsp : SqL K H p [.ref l, .int i, .int g] := SqL.of hp
    have hsl : SqL K H l (ns.map V.int) := SqL.of hl
    refine ⟨_, PSs.nox (pss_cons (ps_if (pt_cmpR op_gt (pe_ix ix_list (pv 0) pe_int (fun _ _ => rfl)) pe_int (nomark _)) (pss_cons (ps_set (i := 2) sc_draw.nd rfl (Or.inl rfl) (pe_op op_mod (pe_callTy call_int1 (by rfl) zint (by decide +kernel) (pa_cons (pe_ix ix_list (pv 0) pe_int (fun _ _ => rfl)) pa_nil)) (pv 1)))
    (pss_cons (ps_asg (pe_op op_fdiv (pe_callTy call_int1 (by rfl) zint (by decide +kernel) (pa_cons (pe_ix ix_list (pv 0) pe_int (fun _ _ => rfl)) pa_nil)) (pv 1)) (pg_sub (pv 0) pe_int set_list))
    (pss_one (ps_ret (pv 2))))) pss_nil)
    (pss_cons (ps_set (i := 3) sc_draw.nd rfl (Or.inl rfl) (pe_ix ix_list (pv 0) pe_int (fun _ _ => rfl)))
    (pss_cons (ps_asg (pe_op op_add (pv 3) pe_int) (pg_sub (pv 0) pe_int set_list))
    (pss_cons (ps_set (i := 4) sc_draw.nd rfl (Or.inl rfl) (pe_op op_add (pe_op op_mul pe_int (pv 3)) pe_int))
    (pss_mid (ps_if (pt_cmpR (op_neD hr.units) (pe_ix ix_list (pv 0) pe_int (fun _ _ => rfl)) (pe_lst pa_nil) (nomark _)) (pss_one (ps_set (i := 4) sc_draw.nd rfl (Or.inl rfl) (pe_ix ix_list (pe_ix ix_list (pv 0) pe_int (fun _ _ => rfl)) (pe_op op_mod (pe_callTy call_int1 (by rfl) zint (by decide +kernel) (pa_cons (pv 3) pa_nil)) (pe_callB call_len (by rfl) zlen (by decide +kernel) (pa_cons (pe_ix ix_list (pv 0) pe_int (fun _ _ => rfl)) pa_nil))) (fun _ _ => rfl)))) pss_nil)
    (pss_mid (ps_if (PW.pt (pw_and (pt_cmpR op_lt (pv 3) (pe_callB call_len (by rfl) zlen (by decide +kernel) (pa_cons (pe_ix ix_list (pv 0) pe_int (fun _ _ => rfl)) pa_nil)) (nomark _)) (pw_and1 (pt_cmpR op_ge (pe_callB call_abs (by rfl) zabs (by decide +kernel) (pa_cons (pv 4) pa_nil)) (pe_op op_pow pe_int pe_int) (nomark _))))) (pss_cons (ps_set (i := 5) sc_draw.nd rfl (Or.inl rfl) (pe_op op_add (pe_op op_mul pe_int (pe_op op_sub (pe_callB call_abs (by rfl) zabs (by decide +kernel) (pa_cons (pv 4) pa_nil)) (pe_op op_pow pe_int pe_int))) (pe_callTy call_int1 (by rfl) zint (by decide +kernel) (pa_cons (pe_cmpR op_lt (pv 4) pe_int (nomark _)) pa_nil))))
    (pss_cons (ps_asg (pe_op op_fdiv (pe_callTy call_int1 (by rfl) zint (by decide +kernel) (pa_cons (pv 5) pa_nil)) (pv 1)) (pg_sub (pv 0) pe_int set_list))
    (pss_one (ps_ret (pe_op op_mod (pe_callTy call_int1 (by rfl) zint (by decide +kernel) (pa_cons (pv 5) pa_nil)) (pv 1)))))) pss_nil)
    (pss_mid (ps_set (i := 6) sc_draw.nd rfl (Or.inl rfl) (pe_op op_mod (pe_callTy call_int1 (by rfl) zint (by decide +kernel) (pa_cons (pe_op op_pow (pe_op op_add (pe_op op_add (pe_op op_mod (pe_callTy call_int1 (by rfl) zint (by decide +kernel) (pa_cons (pv 4) pa_nil)) pe_int) (pe_op op_mul pe_int (pv 3))) pe_int) pe_int) pa_nil)) pe_int))
    (pss_mid (ps_set (i := 6) sc_draw.nd rfl (Or.inl rfl) (pe_op op_mod (pe_callTy call_int1 (by rfl) zint (by decide +kernel) (pa_cons (pe_op op_pow (pe_op op_add (pe_op op_add (pe_op op_mul (pv 6) (pe_op op_add (pe_op op_mul pe_int (pv 3)) pe_int)) (pe_op op_mul (pe_op op_mul pe_int (pv 3)) (pv 3))) pe_int) pe_int) pa_nil)) pe_int))
    (pss_one (ps_ret (pe_op op_mod (pe_callTy call_int1 (by rfl) zint (by decide +kernel) (pa_cons (pe_op op_fdiv (pv 6) pe_int) pa_nil)) (pv 1)))))))))))), ?_⟩
    -- if pen[2] > 0
    refine ⟨_, rfl, p, _, 2, .int g, rfl, rfl, hsp, rfl, _, _, rfl, rfl, _, rfl, ?_⟩
    refine ite2 (fun hgt => ?_) (fun hle => ?_)
    · refine ⟨_, rfl, p, _, 2, .int g, rfl, rfl, hsp, rfl, .inl ⟨g, rfl, _, rfl, g, m, rfl, rfl, hm0, ?_⟩⟩
      refine ⟨_, rfl, p, _, 2, .int g, rfl, rfl, hsp, rfl, .inl ⟨g, rfl, _, rfl, g, m, rfl, rfl, ⟨hm0, hm1⟩, ?_⟩⟩
      refine ⟨_, rfl, p, _, 2, 2, rfl, rfl, hp, rfl, _, rfl, ?_⟩
      refine k (g % m) _ (Int.emod_nonneg _ (by omega)) (Int.emod_lt_of_pos _ hm0) ⟨ns, i, g / m, upd_same, by rw [upd_ne hlp]; exact hl, hlp, hn, hi0, by omega, Int.ediv_nonneg hg0 (by omega)⟩ But.upd
    · -- at = pen[1]; pen[1] = at + 1; cell = ..
      refine ⟨_, rfl, p, _, 1, .int i, rfl, rfl, hsp, rfl, ?_⟩
      refine ⟨_, rfl, i, 1, rfl, rfl, _, rfl, p, _, 1, 1, rfl, rfl, hp, rfl, ?_⟩
      refine ⟨_, rfl, _, i, rfl, rfl, .inl ⟨by decide, by decide⟩, _, _, rfl, rfl, ?_⟩
      have hp1 : (upd H p (.lst ([V.ref l, .int i, .int g].set 1 (.int (i + 1))))) p = some (.lst [.ref l, .int (i + 1), .int g]) := upd_same
      have hl1 : (upd H p (.lst ([V.ref l, .int i, .int g].set 1 (.int (i + 1))))) l = some (.lst (ns.map V.int)) := by rw [upd_ne hlp]; exact hl
      have b1 : But p H (upd H p (.lst ([V.ref l, .int i, .int g].set 1 (.int (i + 1))))) := But.upd
      generalize upd H p (.lst ([V.ref l, .int i, .int g].set 1 (.int (i + 1)))) = H1 at hp1 hl1 b1 ⊢
      -- if pen[0] != []
      refine ⟨fun σ' H' => ∃ z : Int, σ' = [some (.ref p), some (.int m), none, some (.int i), some (.int z), none, none] ∧ H' p = some (.lst [.ref l, .int (i + 1), .int g]) ∧ H' l = some (.lst (ns.map V.int)) ∧ But p H H', ?_, ?_⟩
      · refine ⟨_, rfl, p, _, 0, .ref l, rfl, rfl, SqL.of hp1, rfl, (by show 0 ≤ sizeLine; decide), fun q hq => ?_⟩
        have hq1 : p ≠ q := ne_of_none hp1 hq
        have hq2 : l ≠ q := ne_of_none hl1 hq
        have hp2 : (upd H1 q (.lst [])) p = some (.lst [.ref l, .int (i + 1), .int g]) := by rw [upd_ne hq1]; exact hp1
        have hl2 : (upd H1 q (.lst [])) l = some (.lst (ns.map V.int)) := by rw [upd_ne hq2]; exact hl1
        have hq3 : (upd H1 q (.lst [])) q = some (.lst []) := upd_same
        have b2 : But p H (upd H1 q (.lst [])) := b1.trans (But.of (same_new hq))
        generalize upd H1 q (.lst []) = H2 at hp2 hl2 hq3 b2 ⊢
        refine ⟨_, _, .lst (SqL.of hl2) (dp_ints ns), .lst (SqL.of hq3) .nil, shaped_ints ns, shaped_ints [], _, rfl, ?_⟩
        refine ite2 (fun hne => ?_) (fun _ => ⟨_, rfl, hp2, hl2, b2⟩)
        have hns : 0 < ns.length := by
          cases ns with
          | nil => exact absurd hne (by decide)
          | cons n r => exact Nat.succ_pos _
        have hz : (0 : Int) < ((ns.map V.int).length : Int) := by rw [List.length_map]; omega
        have j0 := Int.emod_nonneg i (Int.ne_of_gt hz)
        have j1 := Int.emod_lt_of_pos i hz
        obtain ⟨z, ez⟩ : ∃ z, (ns.map V.int)[(i % ((ns.map V.int).length : Int)).toNat]? = some (V.int z) := by
          rw [List.length_map] at j0 j1 ⊢
          have hlt : (i % (ns.length : Int)).toNat < ns.length := by omega
          exact ⟨ns[(i % (ns.length : Int)).toNat], by rw [List.getElem?_map, List.getElem?_eq_getElem hlt]; rfl⟩
        exact ⟨_, rfl, p, _, 0, .ref l, rfl, rfl, SqL.of hp2, rfl, _, rfl, .inl ⟨i, rfl, _, rfl, p, _, 0, .ref l, rfl, rfl, SqL.of hp2, rfl, _, _, rfl, .inl ⟨_, SqL.of hl2, rfl⟩, _, _, rfl, rfl, hz, l, _, _, .int z, rfl, rfl, SqL.of hl2, atI_of j0 ez, _, rfl, hp2, hl2, b2⟩⟩
      · rintro σ2 H2 ⟨z, rfl, hp2, hl2, b2⟩
        -- if at < len(pen[0]) and abs(cell) >= 10 ** 18
        refine ⟨fun σ' H' => σ' = [some (.ref p), some (.int m), none, some (.int i), some (.int z), none, none] ∧ H' = H2, ?_, ?_⟩
        · refine ⟨_, rfl, _, rfl, p, _, 0, .ref l, rfl, rfl, SqL.of hp2, rfl, _, _, rfl, .inl ⟨_, SqL.of hl2, rfl⟩, _, _, rfl, rfl, _, rfl, ?_⟩
          refine ite2 (fun _ => ?_) (fun _ => ⟨rfl, rfl⟩)
          refine ⟨_, rfl, _, rfl, _, _, rfl, rfl, ⟨by decide, by decide, by decide⟩, _, _, rfl, rfl, _, rfl, ?_⟩
          refine ite2 (fun hgr => ?_) (fun _ => ⟨rfl, rfl⟩)
          have hgr' := of_decide_eq_true hgr
          refine ⟨_, rfl, _, rfl, _, _, rfl, rfl, ⟨by decide, by decide, by decide⟩, _, _, rfl, rfl, _, _, rfl, rfl, .inl ⟨by decide, by decide⟩, _, rfl, _, _, rfl, rfl, .inr ⟨_, rfl, _, _, rfl, rfl, ?_⟩⟩
          refine ⟨_, rfl, .inl ⟨_, rfl, _, rfl, _, _, rfl, rfl, ⟨hm0, hm1⟩, _, rfl, p, _, 2, 2, rfl, rfl, hp2, rfl, ?_⟩⟩
          refine ⟨_, rfl, .inl ⟨_, rfl, _, rfl, _, _, rfl, rfl, hm0, ?_⟩⟩
          have hpos : (0 : Int) ≤ 2 * ((if z < 0 then -z else z) - 10 ^ (18 : Int).toNat) + (if decide (z < 0) = true then 1 else 0) := by
            have h2 : (0 : Int) ≤ (if decide (z < 0) = true then 1 else 0) := by split <;> decide
            omega
          exact k _ _ (Int.emod_nonneg _ (Int.ne_of_gt hm0)) (Int.emod_lt_of_pos _ hm0) ⟨ns, i + 1, _, upd_same, by rw [upd_ne hlp]; exact hl2, hlp, hn, by omega, by omega, Int.ediv_nonneg hpos (Int.le_of_lt hm0)⟩ (b2.trans But.upd)
        · rintro σ3 H3 ⟨rfl, rfl⟩
          -- the two mixings
          refine ⟨fun σ' H' => ∃ x : Int, σ' = [some (.ref p), some (.int m), none, some (.int i), some (.int z), none, some (.int x)] ∧ H' = H3 ∧ 0 ≤ x ∧ x < 2147483648, ?_, ?_⟩
          · refine ⟨_, rfl, .inl ⟨_, rfl, _, _, rfl, rfl, (by show (0 : Int) < _; decide), _, rfl, _, _, rfl, rfl, .inl ⟨by decide, by decide⟩, _, _, rfl, rfl, _, _, rfl, rfl, _, _, rfl, rfl, ⟨by decide, by decide, ?_⟩, .inl ⟨_, rfl, _, _, rfl, rfl, (by show (0 : Int) < _; decide), _, rfl, rfl, Int.emod_nonneg _ (by decide), Int.lt_trans (Int.emod_lt_of_pos _ (by decide)) (by decide)⟩⟩⟩
            apply pow_ok <;> omega
          rintro σ4 H4 ⟨x, rfl, rfl, x0, x1⟩
          have hi6 : i ≤ 1000000 := by omega
          have q1 := mul_le' x0 (Int.le_of_lt x1) (show (0 : Int) ≤ 2 * i by omega) (show 2 * i ≤ 2000000 by omega)
          have q2 := mul_le' hi0 hi6 hi0 hi6
          refine ⟨fun σ' H' => ∃ y : Int, σ' = [some (.ref p), some (.int m), none, some (.int i), some (.int z), none, some (.int y)] ∧ H' = H4, ?_, ?_⟩
          · refine ⟨_, rfl, _, rfl, _, _, rfl, rfl, .inl ⟨by decide, by decide⟩, _, _, rfl, rfl, _, _, rfl, rfl, .inl ⟨by omega, by omega⟩, _, rfl, _, _, rfl, rfl, .inl ⟨by decide, by decide⟩, _, rfl, _, _, rfl, rfl, .inl ⟨by omega, by omega⟩, _, _, rfl, rfl, _, _, rfl, rfl, _, _, rfl, rfl, ⟨by decide, by decide, ?_⟩, .inl ⟨_, rfl, _, _, rfl, rfl, (by show (0 : Int) < _; decide), _, rfl, rfl⟩⟩
            rw [Int.mul_add, Int.mul_assoc _ i i]
            apply pow_ok <;> omega
          rintro σ5 H5 ⟨y, rfl, rfl⟩
          refine ⟨_, rfl, _, _, rfl, rfl, ⟨by decide, by decide⟩, .inl ⟨_, rfl, _, rfl, _, _, rfl, rfl, hm0, ?_⟩⟩
          exact k _ _ (Int.emod_nonneg _ (Int.ne_of_gt hm0)) (Int.emod_lt_of_pos _ hm0) ⟨ns, i + 1, g, hp2, hl2, hlp, hn, by omega, by omega, hg0⟩ b2
end
abbrev s_pen : Stmt := topS 31
abbrev N_pen : List Str := ["_law_script"]
theorem sc_pen : FnScope N_pen ["_law_script"] (defScope s_pen) := ⟨rfl, rfl, rfl, by decide +kernel, rfl, by decide +kernel, by decide +kernel⟩
abbrev s_pick : Stmt := topS 33
abbrev N_pick : List Str := ["_law_pen_here", "_law_some"]
theorem sc_pick : FnScope N_pick ["_law_pen_here", "_law_some"] (defScope s_pick) := ⟨rfl, rfl, rfl, by decide +kernel, rfl, by decide +kernel, by decide +kernel⟩
section
variable {P : Program} {w : World} {K : Fg} {mg : Str → Option Value} {base : Heap}
theorem ok_pen {f : Addr} {fd : FuncData} (F : FnP K "_law_pen" "_law_pen" s_pen f fd) (T : Txt K mg) : FnOk P w K mg base CX0 1 f fd ["_law_script"] (spPenL K) := by
  have zlist : mg "list" = none := T.bl (by decide +kernel)
  refine F.ok sc_pen (fun vs H Q E h => ?_) (fun cdv A outer s H vs Q E hr h => ?_)
  · obtain ⟨a, ns, rfl, _⟩ := h
    rfl
  · obtain ⟨a, ns, rfl, hS, hn, k⟩ := h
    obtain ⟨ms, em, hm⟩ := cut_ints ns none (some 63)
    refine ⟨_, PSs.nox (pss_one (ps_ret (pe_lst (pa_cons (pe_callTy call_list_of (by rfl) zlist (by decide +kernel) (pa_cons (pe_slice sl_list (pv 0) po_none (po_some pe_int)) pa_nil)) (pa_cons pe_int (pa_cons pe_int pa_nil)))))), ?_⟩
    refine ⟨_, rfl, _, rfl, a, _, rfl, hS, fun q hq => ⟨q, _, rfl, .inl (SqL.of upd_same), fun l hl => ⟨sz1000 (by show 3 ≤ 1000; decide), fun p hp => ?_⟩⟩⟩
    rw [em] at hl hp ⊢
    have s1 := same_new (o := .lst (ms.map V.int)) hq
    have s2 := same_new (o := .lst (ms.map V.int)) hl
    have s3 := same_new (o := .lst [.ref l, .int 0, .int 0]) hp
    have hl' : (upd (upd H q (.lst (ms.map V.int))) l (.lst (ms.map V.int))) l = some (.lst (ms.map V.int)) := upd_same
    exact k p l _ ((s1.trans s2).free hp) ⟨ms, 0, 0, upd_same, s3 _ _ hl', ne_of_none hl' hp, by omega, by decide, by decide, by decide⟩ ((s1.trans s2).trans s3)
theorem ok_pick {f fD : Addr} {fd fdD : FuncData} (F : FnP K "_law_pick" "_law_pick" s_pick f fd) (FD : FnP K "_law_draw" "_law_draw" s_draw fD fdD) (gD : mg "_law_draw" = some (.ref fD)) (T : Txt K mg) : FnOk P w K mg base CX0 2 f fd ["_law_pen_here", "_law_some"] (spPickL K) := by
  have zlen : mg "len" = none := T.bl (by decide +kernel)
  have G_draw : FnOk P w K mg base CX0 1 fD fdD ["_law_pen_here", "_law_many"] spDrawL := ok_draw FD T
  have b_draw : Binds K fdD ["_law_pen_here", "_law_many"] [] := FD.bindsN fun _ _ _ _ _ _ us hl => match us, hl with | [_, _], _ => rfl
  refine F.ok sc_pick (fun vs H Q E h => ?_) (fun cdv A outer s H vs Q E hr h => ?_)
  · obtain ⟨p, l, q, xs, c, rfl, _⟩ := h
    rfl
  · obtain ⟨p, l, q, xs, c, rfl, hS, hqp, hx0, hx1, hP, hc, k⟩ := h
    refine ⟨_, PSs.nox (pss_one (ps_ret (pe_ix ix_list (pv 1) (pe_call G_draw (hr.mono (by decide)) rfl gD FD.kp b_draw .nil pass0 (pa_cons (pv 0) (pa_cons (pe_callB call_len (by rfl) zlen (by decide +kernel) (pa_cons (pv 1) pa_nil)) pa_nil))) (fun _ _ => rfl)))), ?_⟩
    refine ⟨_, rfl, _, rfl, _, rfl, _, _, rfl, .inl ⟨xs, hS, rfl⟩, p, l, (xs.length : Int), c, rfl, by omega, by omega, hP, hc, fun r H' h0 h1 hP' hB => ?_⟩
    have hlt : r.toNat < xs.length := by omega
    exact ⟨q, xs, r, _, rfl, rfl, hB.seq hqp hS, atI_of h0 (List.getElem?_eq_getElem hlt), k _ H' (List.getElem_mem hlt) hP' hB⟩
end
end K10
/-! Tw: the head's hook over addresses that are given by number: nothing is gathered. -/
namespace Tw
open PySem PySem.Spec PyProof.Rows L2 He
def obsQ (as : List Addr) (fs : Fz) (fn : List DefA) (ls : List (Fg → Addr)) (g : Addr → Option Obj) : AlL := (obsZ fs fn (frG g as), ls.map fun f => isTab (g (tabAt (frG g as) (f (frG g as)))))
def hookQ (as : List Addr) (fs : Fz) (fn : List DefA) (ls : List (Fg → Addr)) : PySem.W.Hook where
  α := AlL
  obs := fun s => obsQ as fs fn ls s.heap.get?
  val := fun _ => (valZ fn, ls.map fun _ => true)
  says := fun _ h => ∃ K : Fg, K.In h ∧ SaysZ fs fn K ∧ ∀ f ∈ ls, isTab (h.get? (tabAt K (f K))) = true
  of := fun _ s e => by
    have e2 : (ls.map fun f => isTab (s.heap.get? (tabAt (frG s.heap.get? as) (f (frG s.heap.get? as))))) = ls.map fun _ => true := congrArg (fun z : AlL => z.2) e
    exact ⟨_, frG_in, congrArg (fun z : AlL => z.1) e, fun f hf => List.map_inj_left.mp e2 f hf⟩
  keeps := fun _ _ _ ⟨K, hK, c, t⟩ k => ⟨K, PySem.W.Frag.In.keeps hK k, c, fun f hf => by
    rw [k _ _ (isTab_ok (t f hf))]
    rfl⟩
theorem obsQ_eq {as : List Addr} {fs : Fz} {fn : List DefA} {ls : List (Fg → Addr)} {g : Addr → Option Obj} {s : Shared} (h : ∀ a, g a = s.heap.get? a) : obsQ as fs fn ls g = (hookQ as fs fn ls).obs s := by
  rw [show g = s.heap.get? from funext h]
  rfl
end Tw
namespace K10
open PySem PySem.Spec PyProof.Rows L2 He Tw
abbrev R : PySem.W.OpenRow := PySem.W.OpenLaw.row PySem.Challenge.rw_twoheads_k10_whole_histories_of_rows
abbrev ls : List (Fg → Addr) := tabs
/-- the written part's addresses behind the top, the lambdas' tables left out -/
def ads : List Addr := [3, 6, 4, 21, 31, 44, 56, 75, 94, 113, 132, 139, 146, 153, 199, 210, 217, 224, 229, 236, 267, 518, 529, 534, 541, 548, 555, 562, 569, 574, 581, 586, 591, 598, 605, 610, 617, 624, 631, 636,
  643, 0, 20, 30, 43, 55, 74, 93, 112, 131, 138, 145, 152, 198, 209, 216, 223, 228, 235, 266, 517, 528, 533, 540, 547, 554, 561, 568, 573, 580, 585, 590, 597, 604, 609, 616, 623, 630, 635, 642,
  15, 16, 17, 18, 19, 29, 32, 42, 54, 72, 73, 91, 92, 110, 111, 129, 130, 135, 136, 137, 140, 141, 142, 143, 144, 147, 148, 149, 150, 151, 168, 175, 182, 189, 196, 197, 200, 201, 204, 205,
  206, 207, 208, 211, 212, 213, 214, 215, 218, 219, 220, 221, 222, 225, 226, 227, 230, 231, 232, 233, 234, 250, 257, 264, 265, 268, 269, 287, 296, 304, 311, 318, 325, 332, 339, 346, 353, 358, 365, 372,
  377, 384, 391, 398, 405, 412, 419, 426, 433, 440, 447, 454, 461, 468, 475, 482, 489, 496, 501, 508, 515, 516, 519, 520, 523, 524, 525, 526, 527, 530, 531, 532, 535, 536, 537, 538, 539, 542, 543, 544,
  545, 546, 549, 550, 551, 552, 553, 556, 557, 558, 559, 560, 563, 564, 565, 566, 567, 570, 571, 572, 575, 576, 577, 578, 579, 582, 583, 584, 587, 588, 589, 592, 593, 594, 595, 596, 599, 601, 602, 603,
  606, 607, 608, 611, 612, 613, 614, 615, 618, 619, 620, 621, 622, 625, 627, 628, 629, 632, 633, 634, 637, 639, 640, 641, 71, 90, 109, 128, 167, 161, 174, 181, 188, 195, 249, 256, 263, 286, 280, 294,
  295, 303, 310, 317, 324, 331, 338, 345, 352, 357, 364, 371, 376, 383, 390, 397, 404, 411, 418, 425, 432, 439, 446, 453, 460, 467, 474, 481, 488, 495, 500, 507, 514, 66, 67, 68, 69, 70, 85, 86,
  87, 88, 89, 104, 105, 106, 107, 108, 123, 124, 125, 126, 127, 162, 163, 164, 165, 166, 169, 170, 171, 172, 173, 176, 177, 178, 179, 180, 183, 184, 185, 186, 187, 190, 191, 192, 193, 194, 244, 245,
  246, 247, 248, 251, 252, 253, 254, 255, 258, 259, 260, 261, 262, 281, 282, 283, 284, 285, 279, 293, 297, 298, 299, 300, 301, 302, 305, 306, 307, 308, 309, 312, 313, 314, 315, 316, 319, 320, 321, 322,
  323, 326, 327, 328, 329, 330, 333, 334, 335, 336, 337, 340, 341, 342, 343, 344, 347, 348, 349, 350, 351, 354, 355, 356, 359, 360, 361, 362, 363, 366, 367, 368, 369, 370, 373, 374, 375, 378, 379, 380,
  381, 382, 385, 386, 387, 388, 389, 392, 393, 394, 395, 396, 399, 400, 401, 402, 403, 406, 407, 408, 409, 410, 413, 414, 415, 416, 417, 420, 421, 422, 423, 424, 427, 428, 429, 430, 431, 434, 435, 436,
  437, 438, 441, 442, 443, 444, 445, 448, 449, 450, 451, 452, 455, 456, 457, 458, 459, 462, 463, 464, 465, 466, 469, 470, 471, 472, 473, 476, 477, 478, 479, 480, 483, 484, 485, 486, 487, 490, 491, 492,
  493, 494, 497, 499, 502, 503, 504, 505, 506, 509, 510, 511, 512, 513, 2]
abbrev hk : PySem.W.Hook := hookQ ads fs fn ls
def ob (s : PySem.W.SharedT) : AlL := obsQ ads fs fn ls (HandSHeadRun.getT s)
theorem ob_eq (s : PySem.W.SharedT) : ob s = hk.obs s.abs := obsQ_eq (HandSHeadRun.getT_eq s)
def others : List Str := clss ++ fnames.dropLast ++ (["BEYOND", "LONGEST", "LETTERS", "_wall", "repeated"] : List Str)
theorem run (w : World) : HandSHeadRun.RunEq R (PySem.W.view R.prog [47]) hk ob 9000 others w := by
  intro os
  kernel_rfl
end K10
namespace K10
open PySem PySem.Spec PyProof.Rows L2 He Tw
/-! ### the program -/
def rankOk : V → Bool
  | .int i => decide (-beyond < i) && decide (i < beyond)
  | _ => false
def textOk (z : Str) : Bool := decide (z.length ≤ 8) && z.cps.toList.all fun c => decide (c ∈ letters.cps.toList)
def nameOk : V → Bool
  | .str z => textOk z
  | _ => false
/-- an item of rank i and name z -/
def It (K : Fg) (H : Hp) (a : Addr) (i : Int) (z : Str) : Prop := ∃ dx, H a = some (.ins (ga K "Item") dx [("rank", .int i), ("name", .str z)])
theorem It.same {K : Fg} {H H' : Hp} {a : Addr} {i : Int} {z : Str} (e : Same H H') (h : It K H a i z) : It K H' a i z := by
  obtain ⟨dx, h⟩ := h
  exact ⟨dx, e _ _ h⟩
def spIni (C : Addr) (f : Str) : Sp := fun vs H Q _ => ∃ (a : Addr) (v : V), vs = [.ref a, v] ∧ H a = some (exo a C none) ∧ ∀ (d : Addr) (H' : Hp), H d = none → d ≠ a → H' a = some (exo a C (some d)) → H' d = some (exd d [(f, v)]) → But a H H' → Q .non H'
def spNum : Sp := fun vs H Q _ => ∃ (x : V) (T : String), vs = [x] ∧ Bv H x T ∧ Q (.bl (isI x)) H
def spRank : Sp := fun vs H Q _ => ∃ (x : V) (T : String), vs = [x] ∧ Bv H x T ∧ Q (.bl (rankOk x)) H
def spLet : Sp := fun vs H Q _ => ∃ (x : V) (T : String), vs = [x] ∧ Bv H x T ∧ (∀ z, x = .str z → z.length ≤ 1000) ∧ ∀ H', Same H H' → Q (.bl (nameOk x)) H'
section
variable {P : Program} {w : World} {K : Fg} {mg : Str → Option Value} {base : Heap}
abbrev s_err (i : Nat) : Stmt := inClass (topS i) 0
theorem sc_BadItem : FnScope ["self", "part"] ["self", "part"] (defScope (s_err 5)) := ⟨rfl, rfl, rfl, by decide +kernel, rfl, by decide +kernel, by decide +kernel⟩
theorem ok_BadItem {f : Addr} {fd : FuncData} (F : FnP K "__init__" "BadItem.__init__" (s_err 5) f fd) (T : Txt K mg) : FnOk P w K mg base CX0 1 f fd ["self", "part"] (spIni (ga K "BadItem") "part") := by
  have m : (("BadItem", 5, "part") : Str × Nat × Str) ∈ errs := by decide +kernel
  refine F.ok sc_BadItem (fun vs H Q E h => ?_) (fun cdv A outer s H vs Q E hr h => ?_)
  · obtain ⟨a, v, rfl, _⟩ := h
    rfl
  · obtain ⟨a, v, rfl, ha, k⟩ := h
    refine ⟨_, PSs.nox (pss_one (ps_ost (pv 0) (pv 1))), ?_⟩
    refine ⟨_, rfl, _, rfl, a, _, rfl, (T.xc m).ox, T.no m, .inl ⟨ha, fun d hd hda => k d _ hd hda upd_same (by rw [upd_ne hda]; exact upd_same) fun b o hb hba => ?_⟩⟩
    rw [upd_ne hba, upd_ne (ne_of_none hb hd)]
    exact hb
theorem sc_BadPlace : FnScope ["self", "at"] ["self", "at"] (defScope (s_err 6)) := ⟨rfl, rfl, rfl, by decide +kernel, rfl, by decide +kernel, by decide +kernel⟩
theorem ok_BadPlace {f : Addr} {fd : FuncData} (F : FnP K "__init__" "BadPlace.__init__" (s_err 6) f fd) (T : Txt K mg) : FnOk P w K mg base CX0 1 f fd ["self", "at"] (spIni (ga K "BadPlace") "at") := by
  have m : (("BadPlace", 6, "at") : Str × Nat × Str) ∈ errs := by decide +kernel
  refine F.ok sc_BadPlace (fun vs H Q E h => ?_) (fun cdv A outer s H vs Q E hr h => ?_)
  · obtain ⟨a, v, rfl, _⟩ := h
    rfl
  · obtain ⟨a, v, rfl, ha, k⟩ := h
    refine ⟨_, PSs.nox (pss_one (ps_ost (pv 0) (pv 1))), ?_⟩
    refine ⟨_, rfl, _, rfl, a, _, rfl, (T.xc m).ox, T.no m, .inl ⟨ha, fun d hd hda => k d _ hd hda upd_same (by rw [upd_ne hda]; exact upd_same) fun b o hb hba => ?_⟩⟩
    rw [upd_ne hba, upd_ne (ne_of_none hb hd)]
    exact hb
theorem sc_Disordered : FnScope ["self", "at"] ["self", "at"] (defScope (s_err 7)) := ⟨rfl, rfl, rfl, by decide +kernel, rfl, by decide +kernel, by decide +kernel⟩
theorem ok_Disordered {f : Addr} {fd : FuncData} (F : FnP K "__init__" "Disordered.__init__" (s_err 7) f fd) (T : Txt K mg) : FnOk P w K mg base CX0 1 f fd ["self", "at"] (spIni (ga K "Disordered") "at") := by
  have m : (("Disordered", 7, "at") : Str × Nat × Str) ∈ errs := by decide +kernel
  refine F.ok sc_Disordered (fun vs H Q E h => ?_) (fun cdv A outer s H vs Q E hr h => ?_)
  · obtain ⟨a, v, rfl, _⟩ := h
    rfl
  · obtain ⟨a, v, rfl, ha, k⟩ := h
    refine ⟨_, PSs.nox (pss_one (ps_ost (pv 0) (pv 1))), ?_⟩
    refine ⟨_, rfl, _, rfl, a, _, rfl, (T.xc m).ox, T.no m, .inl ⟨ha, fun d hd hda => k d _ hd hda upd_same (by rw [upd_ne hda]; exact upd_same) fun b o hb hba => ?_⟩⟩
    rw [upd_ne hba, upd_ne (ne_of_none hb hd)]
    exact hb
theorem sc_TooMany : FnScope ["self", "most"] ["self", "most"] (defScope (s_err 8)) := ⟨rfl, rfl, rfl, by decide +kernel, rfl, by decide +kernel, by decide +kernel⟩
theorem ok_TooMany {f : Addr} {fd : FuncData} (F : FnP K "__init__" "TooMany.__init__" (s_err 8) f fd) (T : Txt K mg) : FnOk P w K mg base CX0 1 f fd ["self", "most"] (spIni (ga K "TooMany") "most") := by
  have m : (("TooMany", 8, "most") : Str × Nat × Str) ∈ errs := by decide +kernel
  refine F.ok sc_TooMany (fun vs H Q E h => ?_) (fun cdv A outer s H vs Q E hr h => ?_)
  · obtain ⟨a, v, rfl, _⟩ := h
    rfl
  · obtain ⟨a, v, rfl, ha, k⟩ := h
    refine ⟨_, PSs.nox (pss_one (ps_ost (pv 0) (pv 1))), ?_⟩
    refine ⟨_, rfl, _, rfl, a, _, rfl, (T.xc m).ox, T.no m, .inl ⟨ha, fun d hd hda => k d _ hd hda upd_same (by rw [upd_ne hda]; exact upd_same) fun b o hb hba => ?_⟩⟩
    rw [upd_ne hba, upd_ne (ne_of_none hb hd)]
    exact hb
abbrev s_num : Stmt := topS 15
theorem sc_num : FnScope ["value"] ["value"] (defScope s_num) := ⟨rfl, rfl, rfl, by decide +kernel, rfl, by decide +kernel, by decide +kernel⟩
theorem ok_num {f : Addr} {fd : FuncData} (F : FnP K "is_number" "is_number" s_num f fd) (T : Txt K mg) : FnOk P w K mg base CX0 1 f fd ["value"] spNum := by
  have zisi : mg "isinstance" = none := T.bl (by decide +kernel)
  have zint : mg "int" = none := T.bl (by decide +kernel)
  have zbool : mg "bool" = none := T.bl (by decide +kernel)
  refine F.ok sc_num (fun vs H Q E h => ?_) (fun cdv A outer s H vs Q E hr h => ?_)
  · obtain ⟨x, t, rfl, _⟩ := h
    rfl
  · obtain ⟨x, t, rfl, b, k⟩ := h
    refine ⟨_, PSs.nox (pss_one (ps_ret (pe_and (pe_callB call_isA (by rfl) zisi (by decide +kernel) (pa_cons (pv 0) (pa_cons (pe_bltn (v := .ty "int") (by rfl) zint (by decide +kernel) rfl) pa_nil))) (pe_one (pe_not (pe_callB call_isA (by rfl) zisi (by decide +kernel) (pa_cons (pv 0) (pa_cons (pe_bltn (v := .ty "bool") (by rfl) zbool (by decide +kernel) rfl) pa_nil)))))))), ?_⟩
    obtain ⟨k1, k2, k3⟩ := b.kits (K := K)
    refine ⟨_, rfl, x, .ty "int", _, _, _, rfl, .ty "int", .inl b.ty, k3, _, rfl, ?_⟩
    cases x with
    | bl y => exact ⟨_, rfl, .bl y, .ty "bool", _, _, _, rfl, .ty "bool", .inl b.ty, k2, _, rfl, k⟩
    | int i => exact ⟨_, rfl, .int i, .ty "bool", _, _, _, rfl, .ty "bool", .inl b.ty, k2, _, rfl, k⟩
    | _ => exact k
abbrev s_rnk : Stmt := topS 16
theorem sc_rnk : FnScope ["value"] ["value"] (defScope s_rnk) := ⟨rfl, rfl, rfl, by decide +kernel, rfl, by decide +kernel, by decide +kernel⟩
theorem ok_rnk {f fN : Addr} {fd fdN : FuncData} (F : FnP K "is_rank" "is_rank" s_rnk f fd) (FN : FnP K "is_number" "is_number" s_num fN fdN) (gN : mg "is_number" = some (.ref fN)) (T : Txt K mg) : FnOk P w K mg base CX0 2 f fd ["value"] spRank := by
  obtain ⟨tb, gB⟩ := T.beyond
  have G_num : FnOk P w K mg base CX0 1 fN fdN ["value"] spNum := ok_num FN T
  have b_num : Binds K fdN ["value"] [] := FN.bindsN fun _ _ _ _ _ _ us hl => match us, hl with | [_], _ => rfl
  refine F.ok sc_rnk (fun vs H Q E h => ?_) (fun cdv A outer s H vs Q E hr h => ?_)
  · obtain ⟨x, t, rfl, _⟩ := h
    rfl
  · obtain ⟨x, t, rfl, b, k⟩ := h
    refine ⟨_, PSs.nox (pss_one (ps_ret (pe_and (pe_call G_num (hr.mono (by decide)) rfl gN FN.kp b_num .nil pass0 (pa_cons (pv 0) pa_nil)) (pe_one (pe_chain op_lt op_lt (pe_un un_neg (pe_glob (v := .int beyond) rfl gB ⟨_, rfl⟩)) (pv 0) (pe_glob (v := .int beyond) rfl gB ⟨_, rfl⟩)))))), ?_⟩
    refine ⟨_, rfl, x, t, rfl, b, _, rfl, ?_⟩
    cases x with
    | int i =>
      refine ⟨_, rfl, _, rfl, _, _, rfl, rfl, _, rfl, ?_⟩
      have e : rankOk (.int i) = (decide (-beyond < i) && decide (i < beyond)) := rfl
      rw [e] at k
      by_cases h1 : -beyond < i
      · rw [decide_eq_true h1, Bool.true_and] at k
        rw [if_pos (decide_eq_true h1)]
        exact ⟨_, _, rfl, rfl, k⟩
      · rw [decide_eq_false h1, Bool.false_and] at k
        rw [decide_eq_false h1]
        exact k
    | _ => exact k
end
end K10
namespace K10
open PySem PySem.Spec PyProof.Rows L2 He Tw
abbrev s_let : Stmt := topS 12
abbrev N_let : List Str := ["value", "sign"]
theorem sc_let : FnScope N_let ["value"] (defScope s_let) := ⟨rfl, rfl, rfl, by decide +kernel, rfl, by decide +kernel, by decide +kernel⟩
def inL (c : Nat) : Bool := decide (c ∈ letters.cps.toList)
theorem all_bl (l : List Nat) : ((l.map inL).all id) = l.all inL := by
  induction l with
  | nil => rfl
  | cons c r ih => rw [List.map_cons, List.all_cons, List.all_cons, ih]; rfl
section
variable {P : Program} {w : World} {K : Fg} {mg : Str → Option Value} {base : Heap}
theorem ok_let {f : Addr} {fd : FuncData} (F : FnP K "is_lettered" "is_lettered" s_let f fd) (T : Txt K mg) : FnOk P w K mg base CX0 1 f fd ["value"] spLet := by
  have zisi : mg "isinstance" = none := T.bl (by decide +kernel)
  have zstr : mg "str" = none := T.bl (by decide +kernel)
  have zlen : mg "len" = none := T.bl (by decide +kernel)
  have zall : mg "all" = none := T.bl (by decide +kernel)
  obtain ⟨tL, gL⟩ := T.longest
  obtain ⟨tS, gS⟩ := T.letters
  refine F.ok sc_let (fun vs H Q E h => ?_) (fun cdv A outer s H vs Q E hr h => ?_)
  · obtain ⟨x, t, rfl, _⟩ := h
    rfl
  · obtain ⟨x, t, rfl, b, hz, k⟩ := h
    refine ⟨_, PSs.nox (pss_cons (ps_if (PW.pt (pw_or (pt_not (pt_val (pe_callB call_isA (by rfl) zisi (by decide +kernel) (pa_cons (pv 0) (pa_cons (pe_bltn (v := .ty "str") (by rfl) zstr (by decide +kernel) rfl) pa_nil))))) (pw_or1 (pt_cmpR op_gt (pe_callB call_len (by rfl) zlen (by decide +kernel) (pa_cons (pv 0) pa_nil)) (pe_glob (v := .int 8) rfl gL ⟨_, rfl⟩) (nomark _))))) (pss_one (ps_ret pe_bl)) pss_nil)
    (pss_one (ps_ret (pe_callB (cr_all rfl) (by rfl) zall (by decide +kernel) (pa_cons (pe_lc (own := [("sign", 1)]) (g := gName 1) (tt := tYes) (by rfl) sc_let.nd (pi_str (pv 0)) (blkOk_by (own := [("sign", 1)]) (N := N_let) (sc := defScope s_let) (by decide +kernel)) (fun _ _ _ _ _ => (pg_name (i := 1) sc_let.nd rfl (Or.inl rfl))) (fun _ _ _ _ _ => pts_nil) (fun _ _ _ _ _ => (pe_cmpR op_in_sign (pv 1) (pe_glob (v := .str letters) rfl gS ⟨_, rfl⟩) rfl))) pa_nil))))), ?_⟩
    obtain ⟨k1, k2, k3⟩ := b.kits (K := K)
    refine ⟨_, rfl, x, .ty "str", _, _, _, rfl, .ty "str", .inl b.ty, k1, _, rfl, ?_⟩
    cases x with
    | str z =>
      have hl := hz z rfl
      refine ⟨_, rfl, _, _, rfl, ⟨Nat.le_trans hl (by decide), rfl⟩, _, _, rfl, rfl, _, rfl, ?_⟩
      refine ite2 (fun h => ?_) (fun h => ?_)
      · have h2 : ¬ z.length ≤ 8 := by
          have := of_decide_eq_true h
          omega
        have e : nameOk (.str z) = false := by
          show (decide (z.length ≤ 8) && _) = false
          rw [decide_eq_false h2, Bool.false_and]
        rw [e] at k
        exact k H fun _ _ q => q
      · have h2 : z.length ≤ 8 := by
          have h3 : ¬ (8 : Int) < (z.length : Int) := fun y => h (decide_eq_true y)
          omega
        have e : nameOk (.str z) = z.cps.toList.all inL := by
          show (decide (z.length ≤ 8) && _) = _
          rw [decide_eq_true h2, Bool.true_and]
          rfl
        rw [e] at k
        refine ⟨_, rfl, z, rfl, fun D hD => lcStr (fun i H' => Same H H' ∧ H' D = some (.lst (((z.cps.toList.take i).map inL).map V.bl))) ⟨same_new hD, upd_same⟩ ?_ ?_⟩
        · rintro i c H' hc ⟨sD, gD⟩
          refine ⟨rfl, _, rfl, c, letters, rfl, rfl, _, gD, ?_, ?_, ?_⟩
          · rw [List.length_map, List.length_map]
            exact Nat.lt_of_le_of_lt (List.length_take_le' _ _) (Nat.lt_of_le_of_lt (show z.cps.toList.length ≤ 8 from h2) (by decide))
          · exact fun b o hb => by
              rw [upd_ne (ne_of_none hb hD)]
              exact sD b o hb
          · have hc2 : z.cps.toList[i]? = some c := by rw [Array.getElem?_toList]; exact hc
            rw [upd_same, List.take_add_one, hc2, List.map_append, List.map_append]
            rfl
        · rintro H' ⟨sD, gD⟩
          have e2 : z.cps.toList.take z.cps.size = z.cps.toList := List.take_of_length_le (Nat.le_of_eq (by simp))
          rw [e2] at gD
          refine ⟨D, _, rfl, SqL.of gD, ?_⟩
          rw [all_bl]
          exact k H' sD
    | _ => exact k H fun _ _ q => q
end
/-- what Item.__init__ does: the fields stand, or BadItem goes out with the part -/
def spItem (K : Fg) : Sp := fun vs H Q E => ∃ (a dx : Addr) (x y : V) (t u : String), vs = [.ref a, x, y] ∧ H a = some (.ins (ga K "Item") dx []) ∧ Bv H x t ∧ Bv H y u ∧ (∀ z, y = .str z → z.length ≤ 1000) ∧
  (rankOk x = true → nameOk y = true → ∀ H', But a H H' → H' a = some (.ins (ga K "Item") dx [("rank", x), ("name", y)]) → Q .non H') ∧
  (rankOk x = false ∨ nameOk y = false → ∀ (d : Addr) (H' : Hp), Same H H' → H' d = some (.xd [("part", .str (if rankOk x = true then "name" else "rank"))]) → E (.ref (ga K "BadItem")) (some d) H')
theorem bad_out {H : Hp} {C : Addr} {z : Str} {Q : XK} {E : XK} (k : ∀ (d : Addr) (H' : Hp), Same H H' → H' d = some (.xd [("part", .str z)]) → Q (.ref C) (some d) H') :
    ([V.str z] : List V).length ≤ 1000 ∧ ∀ a, H a = none → spIni C "part" (.ref a :: (([V.str z] : List V) ++ [])) (upd H a (exo a C none)) (fun v H2 => v = .non ∧ ∃ (d : Addr) (fs : List (Str × V)), H2 a = some (exo a C (some d)) ∧ H2 d = some (exd d fs) ∧ H d = none ∧ Q (.ref C) (some d) (upd (del H2 a) d (.xd fs))) E := by
  refine ⟨(by show 1 ≤ 1000; decide), fun a ha => ⟨a, .str z, rfl, upd_same, fun d H' hd hda e1 e2 e3 => ?_⟩⟩
  rw [upd_ne hda] at hd
  refine ⟨rfl, d, _, e1, e2, hd, k d _ (fun b o hb => ?_) upd_same⟩
  have hba : b ≠ a := ne_of_none hb ha
  rw [upd_ne (ne_of_none hb hd), del_ne hba]
  exact e3 b o (by rw [upd_ne hba]; exact hb) hba
abbrev s_item : Stmt := inClass (topS 17) 0
theorem sc_item : FnScope ["self", "rank", "name"] ["self", "rank", "name"] (defScope s_item) := ⟨rfl, rfl, rfl, by decide +kernel, rfl, by decide +kernel, by decide +kernel⟩
abbrev FnI (K : Fg) (f : Addr) (fd : FuncData) : Prop := FunD K "__init__" "Item.__init__" (defArgs s_item) (defBody s_item) (defScope s_item) [.str ""] [] f fd
section
variable {P : Program} {w : World} {K : Fg} {mg : Str → Option Value} {base : Heap}
theorem ok_item {f fR fL fB : Addr} {fd fdR fdL fdB fdN : FuncData} {fN : Addr} (F : FnI K f fd) (FR : FnP K "is_rank" "is_rank" s_rnk fR fdR) (gR : mg "is_rank" = some (.ref fR)) (FN : FnP K "is_number" "is_number" s_num fN fdN) (gN : mg "is_number" = some (.ref fN))
    (FL : FnP K "is_lettered" "is_lettered" s_let fL fdL) (gL : mg "is_lettered" = some (.ref fL)) (FB : FnP K "__init__" "BadItem.__init__" (s_err 5) (ma K (ga K "BadItem") "__init__") fdB) (T : Txt K mg) : FnOk P w K mg base (L2.CX P w) 3 f fd ["self", "rank", "name"] (spItem K) := by
  have gB : mg "BadItem" = some (.ref (ga K "BadItem")) := T.cl (by decide +kernel)
  have G_rnk : FnOk P w K mg base CX0 2 fR fdR ["value"] spRank := ok_rnk FR FN gN T
  have G_let : FnOk P w K mg base CX0 1 fL fdL ["value"] spLet := ok_let FL T
  have G_bad : FnOk P w K mg base CX0 1 _ fdB ["self", "part"] (spIni (ga K "BadItem") "part") := ok_BadItem FB T
  have b_rnk : Binds K fdR ["value"] [] := FR.bindsN fun _ _ _ _ _ _ us hl => match us, hl with | [_], _ => rfl
  have b_let : Binds K fdL ["value"] [] := FL.bindsN fun _ _ _ _ _ _ us hl => match us, hl with | [_], _ => rfl
  have b_bad : Binds K fdB ["self", "part"] [] := FB.bindsN fun _ _ _ _ _ _ us hl => match us, hl with | [_, _], _ => rfl
  have mB : (("BadItem", 5, "part") : Str × Nat × Str) ∈ errs := by decide +kernel
  obtain ⟨iB, tB⟩ := T.ini mB
  refine F.ok sc_item (fun vs H Q E h => ?_) (fun cdv A outer s H vs Q E hr h => ?_)
  · obtain ⟨a, dx, x, y, t, u, rfl, _⟩ := h
    rfl
  · obtain ⟨a, dx, x, y, t, u, rfl, ha, bx, bY, hz, kn, kx⟩ := h
    refine ⟨_, (pss_cons (ps_if (pt_not (pt_val (pe_call G_rnk (hr.mono (by decide)) rfl gR FR.kp b_rnk .nil pass0 (pa_cons (pv 1) pa_nil)))) (pss_one (ps_raise rfl (takes_of rfl rfl rfl rfl) (pmk_oex (T.xc mB).ox iB tB G_bad (hr.mono (by decide)) b_bad .nil pass0 rfl gB (pa_cons pe_str pa_nil)))) pss_nil)
    (pss_cons (ps_if (pt_not (pt_val (pe_call G_let (hr.mono (by decide)) rfl gL FL.kp b_let .nil pass0 (pa_cons (pv 2) pa_nil)))) (pss_one (ps_raise rfl (takes_of rfl rfl rfl rfl) (pmk_oex (T.xc mB).ox iB tB G_bad (hr.mono (by decide)) b_bad .nil pass0 rfl gB (pa_cons pe_str pa_nil)))) pss_nil)
    (pss_cons (ps_fld (pv 0) (pv 1) rfl)
    (pss_one (ps_fld (pv 0) (pv 2) rfl))))), ?_⟩
    refine ⟨_, rfl, x, t, rfl, bx, _, rfl, ?_⟩
    cases hx : rankOk x with
    | false =>
      rw [hx] at kx
      exact bad_out (kx (.inl rfl))
    | true =>
      rw [hx] at kx kn
      refine ⟨_, rfl, y, u, rfl, bY, hz, fun H1 s1 => ⟨_, rfl, ?_⟩⟩
      cases hy : nameOk y with
      | false =>
        rw [hy] at kx
        exact bad_out fun d H' s2 hd => kx (.inr rfl) d H' (s1.trans s2) hd
      | true =>
        rw [hy] at kn
        refine ⟨_, rfl, _, rfl, a, _, dx, _, rfl, s1 _ _ ha, T.cls, T.na (by decide +kernel), (by show 0 < 1000; decide), ?_⟩
        refine ⟨_, rfl, _, rfl, a, _, dx, _, rfl, upd_same, T.cls, T.na (by decide +kernel), (by show 1 < 1000; decide), ?_⟩
        exact kn rfl rfl _ (((But.of s1).trans But.upd).trans But.upd) upd_same
end
end K10
namespace K10
open PySem PySem.Spec PyProof.Rows L2 He Tw
theorem It.ty {K : Fg} {mg : Str → Option Value} {H : Hp} (T : Txt K mg) {a : Addr} {i : Int} {z : Str} (h : It K H a i z) : TyX K H (.ref a) (.ref (ga K "Item")) := by
  obtain ⟨dx, h⟩ := h
  exact .base (.ins h T.cls (T.ob (by decide +kernel)).2 T.xo.hn T.xo.ht (T.ob (by decide +kernel)).1)
theorem bv_kind {H : Hp} {x : V} {T : String} (h : Bv H x T) : T ∈ kinds := by
  cases h <;> decide
/-- what may stand for an item: an item, a rank, or anything plain that is neither -/
inductive Vv (K : Fg) (H : Hp) : V → Option (Int × Str) → Prop where
  | item {a : Addr} {i : Int} {z : Str} (h : It K H a i z) : Vv K H (.ref a) (some (i, z))
  | int {i : Int} (h : rankOk (.int i) = true) : Vv K H (.int i) (some (i, ""))
  | bad {x : V} {t : String} (h : Bv H x t) (b : rankOk x = false) : Vv K H x none
theorem Vv.same {K : Fg} {H H' : Hp} {x : V} {o : Option (Int × Str)} (e : Same H H') (h : Vv K H x o) : Vv K H' x o := by
  cases h with
  | item h => exact .item (h.same e)
  | int h => exact .int h
  | bad h b => exact .bad (h.same e) b
/-- references to items of these ranks and names -/
def Its (K : Fg) (H : Hp) (ys : List V) (ps : List (Int × Str)) : Prop := Paired (fun y p => ∃ a, y = V.ref a ∧ It K H a p.1 p.2) ys ps
theorem Its.same {K : Fg} {H H' : Hp} (e : Same H H') : ∀ {ys : List V} {ps : List (Int × Str)}, Its K H ys ps → Its K H' ys ps
  | _, _, .nil => .nil
  | _, _, .cons ⟨a, h1, h2⟩ t => .cons ⟨a, h1, h2.same e⟩ (Its.same e t)
theorem Its.snoc {K : Fg} {H : Hp} : ∀ {ys : List V} {ps : List (Int × Str)} {a : Addr} {p : Int × Str}, Its K H ys ps → It K H a p.1 p.2 → Its K H (ys ++ [.ref a]) (ps ++ [p])
  | _, _, _, _, .nil, h => .cons ⟨_, rfl, h⟩ .nil
  | _, _, _, _, .cons x t, h => .cons x (Its.snoc t h)
/-- a row with these items -/
def RowAt (K : Fg) (H : Hp) (a : Addr) (xs : List V) : Prop := ∃ dx t, H a = some (.ins (ga K "Row") dx [("state", .ref t)]) ∧ H t = some (.tup xs)
/-- what a row can be made of -/
def Seq (K : Fg) (H : Hp) (q : Addr) (xs : List V) : Prop := SqL K H q xs ∨ SqT K H q xs ∨ RowAt K H q xs
def spAs (K : Fg) : Sp := fun vs H Q E => ∃ (q : Addr) (xs : List V) (os : List (Option (Int × Str))), vs = [.ref q] ∧ Seq K H q xs ∧ xs.length ≤ 900 ∧ os.length = xs.length ∧ (∀ (i : Nat) (x : V), xs[i]? = some x → ∃ o : Option (Int × Str), os[i]? = some o ∧ Vv K H x o) ∧
  (∀ (ps : List (Int × Str)) (l : Addr) (H' : Hp) (ys : List V), os = ps.map some → H l = none → Same H H' → H' l = some (.lst ys) → Its K H' ys ps → Q (.ref l) H') ∧
  (∀ (n : Nat) (ps : List (Int × Str)) (d : Addr) (H' : Hp), ps.length = n → (∀ (m : Nat) (p : Int × Str), ps[m]? = some p → os[m]? = some (some p)) → os[n]? = some none → Same H H' → H' d = some (.xd [("part", .int (n : Nat))]) → E (.ref (ga K "BadItem")) (some d) H')
theorem err_out {H : Hp} {C : Addr} {f : Str} {v : V} {Q : XK} {E : XK} (k : ∀ (d : Addr) (H' : Hp), Same H H' → H' d = some (.xd [(f, v)]) → Q (.ref C) (some d) H') :
    ([v] : List V).length ≤ 1000 ∧ ∀ a, H a = none → spIni C f (.ref a :: (([v] : List V) ++ [])) (upd H a (exo a C none)) (fun u H2 => u = .non ∧ ∃ (d : Addr) (fs : List (Str × V)), H2 a = some (exo a C (some d)) ∧ H2 d = some (exd d fs) ∧ H d = none ∧ Q (.ref C) (some d) (upd (del H2 a) d (.xd fs))) E := by
  refine ⟨(by show 1 ≤ 1000; decide), fun a ha => ⟨a, v, rfl, upd_same, fun d H' hd hda e1 e2 e3 => ?_⟩⟩
  rw [upd_ne hda] at hd
  refine ⟨rfl, d, _, e1, e2, hd, k d _ (fun b o hb => ?_) upd_same⟩
  have hba : b ≠ a := ne_of_none hb ha
  rw [upd_ne (ne_of_none hb hd), del_ne hba]
  exact e3 b o (by rw [upd_ne hba]; exact hb) hba
abbrev s_iter : Stmt := inClass (topS 27) 4
theorem sc_iter : FnScope ["self"] ["self"] (defScope s_iter) := ⟨rfl, rfl, rfl, by decide +kernel, rfl, by decide +kernel, by decide +kernel⟩
section
variable {P : Program} {w : World} {K : Fg} {mg : Str → Option Value} {base : Heap}
theorem ok_iter {f : Addr} {fd : FuncData} (F : FnP K "__iter__" "Row.__iter__" s_iter f fd) (T : Txt K mg) : FnN P w K mg base CX0 1 f fd ["self"] (spIter (ga K "Row") "state") := by
  have zit : mg "iter" = none := T.bl (by decide +kernel)
  refine F.okN sc_iter (fun n vs H Q E h => ?_) (fun cdv A outer s H vs Q E hr h => ?_)
  · obtain ⟨a, dx, t, fs, zs, rfl, _⟩ := h
    rfl
  · obtain ⟨a, dx, t, fs, zs, rfl, ha, hl, ht, k⟩ := h
    refine ⟨_, (pss_one (ps_ret (pe_callB call_iterT (by rfl) zit (by decide +kernel) (pa_cons (pe_fld (pv 0) rfl) pa_nil)))), ?_⟩
    exact ⟨_, rfl, a, _, dx, _, _, rfl, ha, T.clsR, T.naR, hl, t, zs, rfl, SqT.of ht, fun it H' h0 hn sm e => k it H' h0 hn sm e⟩
abbrev s_as : Stmt := topS 19
abbrev N_as : List Str := ["values", "found", "k", "value"]
theorem sc_as : FnScope N_as ["values"] (defScope s_as) := ⟨rfl, rfl, rfl, by decide +kernel, rfl, by decide +kernel, by decide +kernel⟩
/-- the item's class, its def, all ways it is called -/
structure Itm (P : Program) (w : World) (K : Fg) (mg : Str → Option Value) (base : Heap) (fd : FuncData) (d2 : List Value) : Prop where
  ok : FnOk P w K mg base (L2.CX P w) 3 (ma K (ga K "Item") "__init__") fd ["self", "rank", "name"] (spItem K)
  b : Binds K fd ["self", "rank", "name"] []
  r2 : Vals [.str ""] d2
  b2 : Binds K fd ["self", "rank", "name"] d2
/-- the row's __iter__ -/
structure Wlk (P : Program) (w : World) (K : Fg) (mg : Str → Option Value) (base : Heap) (fd : FuncData) : Prop where
  ok : FnN P w K mg base CX0 1 (ma K (ga K "Row") "__iter__") fd ["self"] (spIter (ga K "Row") "state")
  b : Binds K fd ["self"] []
theorem seq_same {K : Fg} {H H' : Hp} {q : Addr} {xs : List V} (e : Same H H') (h : Seq K H q xs) : Seq K H' q xs := by
  rcases h with h | h | ⟨dx, t, h1, h2⟩
  · exact .inl (e.seq h)
  · exact .inr (.inl (sqT_same e h))
  · exact .inr (.inr ⟨dx, t, e _ _ h1, e _ _ h2⟩)
/-- an iterator that is there -/
def iAt (J : L2.It) : TI := fun _ H R => R J H
theorem enumA_for {K : Fg} {H H1 : Hp} {ta : TA} {g : TG} {tb : TS} {D : Ends} {σ : L2.St} {q : Addr} {xs : List V} (ht : ∀ R : List V → Hp → Prop, R [.ref q] H1 → ta σ H1 R) (s1 : Same H H1) (hS : Seq K H q xs)
    (h : ∀ (G : Hp → List V → Prop) (H2 : Hp), Same H1 H2 → (∀ H', Same H H' → G H' xs) → tFor (iAt (IteG G)) g tb D σ H2) : tFor (iEnumA K (ga K "Row") "state" ta) g tb D σ H1 := by
  have rf : Same H1 H1 := fun _ _ e => e
  refine ht _ ?_
  rcases hS with g | g | ⟨dx, t, g1, g2⟩
  · exact ⟨q, rfl, .inl ⟨⟨xs, s1.seq g⟩, h _ _ rf fun H' e => e.seq g⟩⟩
  · exact ⟨q, rfl, .inr (.inl ⟨⟨xs, sqT_same s1 g⟩, h _ _ rf fun H' e => sqT_same e g⟩)⟩
  · exact ⟨q, rfl, .inr (.inr ⟨dx, t, _, xs, s1 _ _ g1, rfl, s1 _ _ g2, fun H2 s2 => h _ _ s2 fun H' e => SqT.of (e _ _ g2)⟩)⟩
theorem same_but {H H1 H2 : Hp} {a : Addr} (s : Same H H1) (b : But a H1 H2) (h : H a = none) : Same H H2 := fun c o e => b c o (s c o e) (ne_of_none e h)
theorem same_made {H : Hp} {a dx : Addr} {o u : HO} (hd : H dx = none) (ha : H a = none) (hda : dx ≠ a) : Same H (upd (upd H dx o) a u) := (same_new hd).trans (same_new (by rw [upd_ne hda.symm]; exact ha))
theorem item_mk {K : Fg} {H : Hp} {i : Int} {z : Str} {R : VK} {E : XK} {x dx : Addr} (hx : H x = none) (hd : H dx = none) (hne : dx ≠ x) (hi : rankOk (.int i) = true) (tz : nameOk (.str z) = true) (lz : z.length ≤ 1000) (k : ∀ H' : Hp, It K H' x i z → Same H H' → R .non H') :
    spItem K [.ref x, .int i, .str z] (upd (upd H dx (.own x)) x (.ins (ga K "Item") dx [])) R E := by
  refine ⟨x, dx, .int i, .str z, "int", "str", rfl, upd_same, .int i, .str z, fun y e => ?_, fun _ _ H' b e => k H' ⟨dx, e⟩ (same_but (same_made hd hx hne) b hx), fun h => ?_⟩
  · cases e
    exact lz
  · rw [hi, tz] at h
    rcases h with h | h <;> cases h
theorem it_upd {K : Fg} {H : Hp} {l a : Addr} {us : List V} {o : HO} {i : Int} {z : Str} (hl : H l = some (.lst us)) (h : It K H a i z) : It K (upd H l o) a i z := by
  obtain ⟨dx, h⟩ := h
  refine ⟨dx, ?_⟩
  rw [upd_ne (fun e => by
    rw [e, hl] at h
    cases h)]
  exact h
theorem its_upd {K : Fg} {H : Hp} {l : Addr} {us : List V} {o : HO} (hl : H l = some (.lst us)) : ∀ {ys : List V} {ps : List (Int × Str)}, Its K H ys ps → Its K (upd H l o) ys ps
  | _, _, .nil => .nil
  | _, _, .cons ⟨a, h1, h2⟩ t => .cons ⟨a, h1, it_upd hl h2⟩ (its_upd hl t)
theorem same_upd {H H' : Hp} {l : Addr} {o : HO} (s : Same H H') (h : H l = none) : Same H (upd H' l o) := fun b u e => by
  rw [upd_ne (ne_of_none e h)]
  exact s b u e
theorem ok_as {f fR fN : Addr} {fd fdR fdN fdB fdI fdW : FuncData} {d2 : List Value} (F : FnP K "as_items" "as_items" s_as f fd) (FR : FnP K "is_rank" "is_rank" s_rnk fR fdR) (gR : mg "is_rank" = some (.ref fR)) (FN : FnP K "is_number" "is_number" s_num fN fdN) (gN : mg "is_number" = some (.ref fN))
    (FB : FnP K "__init__" "BadItem.__init__" (s_err 5) (ma K (ga K "BadItem") "__init__") fdB) (I : Itm P w K mg base fdI d2) (W : Wlk P w K mg base fdW) (T : Txt K mg) : FnOk P w K mg base (L2.CX P w) 5 f fd ["values"] (spAs K) := by
  have zisi : mg "isinstance" = none := T.bl (by decide +kernel)
  have zen : mg "enumerate" = none := T.bl (by decide +kernel)
  have gB : mg "BadItem" = some (.ref (ga K "BadItem")) := T.cl (by decide +kernel)
  have gI : mg "Item" = some (.ref (ga K "Item")) := T.cl (by decide +kernel)
  have mB : (("BadItem", 5, "part") : Str × Nat × Str) ∈ errs := by decide +kernel
  obtain ⟨iB, tB⟩ := T.ini mB
  have G_rnk : FnOk P w K mg base CX0 2 fR fdR ["value"] spRank := ok_rnk FR FN gN T
  have G_bad : FnOk P w K mg base CX0 1 _ fdB ["self", "part"] (spIni (ga K "BadItem") "part") := ok_BadItem FB T
  have b_rnk : Binds K fdR ["value"] [] := FR.bindsN fun _ _ _ _ _ _ us hl => match us, hl with | [_], _ => rfl
  have b_bad : Binds K fdB ["self", "part"] [] := FB.bindsN fun _ _ _ _ _ _ us hl => match us, hl with | [_, _], _ => rfl
  have mI := T.mtR (m := "__iter__") (by decide +kernel)
  refine F.ok sc_as (fun vs H Q E h => ?_) (fun cdv A outer s H vs Q E hr h => ?_)
  · obtain ⟨q, xs, os, rfl, _⟩ := h
    rfl
  · obtain ⟨q, xs, os, rfl, hS, hn, ho, hv, kg, kb⟩ := h
    refine ⟨_, (pss_cons (ps_set (i := 1) sc_as.nd rfl (Or.inl rfl) (pe_lstN pa_nil))
    (pss_cons (ps_for (passes_of rfl) rfl (pi_enumA mI.at_ mI.fn W.ok (hr.mono (by decide)) W.b pass0 (E := E0) (by rfl) zen (pa_cons (pv 0) pa_nil)) (pg_tup (by rfl) (pgs_cons (pg_name (i := 2) sc_as.nd rfl (Or.inl rfl)) (pgs_cons (pg_name (i := 3) sc_as.nd rfl (Or.inl rfl)) pgs_nil)))
    (pss_one (ps_if (pt_val (pe_callB call_isA (by rfl) zisi (by decide +kernel) (pa_cons (pv 3) (pa_cons (pe_glob (v := .ref (ga K "Item")) rfl gI rfl) pa_nil)))) (pss_one (ps_expr (pe_bm PySem.F.plainAttrs_list PySem.F.slot_list_append PySem.F.type_list_append mt_append (pv 1) (pa_cons (pv 3) pa_nil)))) (pss_one (ps_if (pt_val (pe_call G_rnk (hr.mono (by decide)) rfl gR FR.kp b_rnk .nil pass0 (pa_cons (pv 3) pa_nil))) (pss_one (ps_expr (pe_bm PySem.F.plainAttrs_list PySem.F.slot_list_append PySem.F.type_list_append mt_append (pv 1) (pa_cons (pe_make (E := E0) T.mkI I.ok (hr.mono (by decide)) rfl gI I.b2 I.r2 passL (pa_cons (pv 3) pa_nil)) pa_nil)))) (pss_one (ps_raise rfl (takes_of rfl rfl rfl rfl) (pmk_oex (T.xc mB).ox iB tB G_bad (hr.mono (by decide)) b_bad .nil pass0 rfl gB (pa_cons (pv 2) pa_nil)))))))))
    (pss_one (ps_ret (pv 1))))), ?_⟩
    refine ⟨sz1000 (Nat.zero_le _), fun l H1 f1 m1 s1 g1 => ?_⟩
    dsimp only [gName]
    unfold tSeq
    refine enumA_for (fun R r => ⟨_, rfl, r⟩) s1 hS fun G H2 s2 still => for_enum (xs := xs) (fun i σ H' => ∃ (kv vv : Option V) (ys : List V) (ps : List (Int × Str)), σ = [some (.ref q), some (.ref l), kv, vv] ∧ Same H H' ∧ H' l = some (.lst ys) ∧ Its K H' ys ps ∧ ps.length = i ∧ ∀ (m : Nat) (p : Int × Str), ps[m]? = some p → os[m]? = some (some p))
      ⟨none, none, [], [], rfl, s1.trans s2, s2 _ _ g1, .nil, rfl, fun m p hp => nomatch hp⟩ (fun i σ H' _ ⟨_, _, _, _, _, sm, _⟩ => still H' sm) ?_ ?_
    · rintro i x t σ H3 H4 hx ⟨kv, vv, ys, ps, rfl, sm, gl, its, hl, hp⟩ ht s4 et
      obtain ⟨o, eo, hv3⟩ := hv i x hx
      have sm4 := sm.trans s4
      have hv4 := hv3.same sm4
      have gl4 := s4 _ _ gl
      have lt : ys.length < sizeLine := by
        have h1 : ys.length = ps.length := Paired.length its
        have h2 : i < xs.length := (List.getElem?_eq_some_iff.mp hx).1
        exact Nat.lt_of_lt_of_le (show ys.length < 1000 by omega) (by decide)
      have snoc : ∀ {p : Int × Str}, o = some p → ∀ (m : Nat) (p' : Int × Str), (ps ++ [p])[m]? = some p' → os[m]? = some (some p') := fun {p} e m p' hm => by
        by_cases h : m < ps.length
        · rw [List.getElem?_append_left h] at hm
          exact hp m p' hm
        · have h2 : m = ps.length := by
            have := (List.getElem?_eq_some_iff.mp hm).1
            rw [List.length_append, List.length_singleton] at this
            omega
          subst h2
          rw [List.getElem?_append_right (Nat.le_refl _), Nat.sub_self] at hm
          cases hm
          rw [hl, eo, e]
      refine ⟨t, _, rfl, SqT.of et, rfl, ?_⟩
      refine ⟨_, _, rfl, _, _, rfl, rfl, ?_⟩
      cases hv4 with
      | @item a j z h =>
        refine ⟨_, rfl, .ref a, .ref (ga K "Item"), _, _, _, rfl, .own _, .inl (h.ty T), T.kitII, _, rfl, ?_⟩
        refine ⟨_, rfl, .inl ⟨rfl, _, SqL.of gl4⟩, _, rfl, l, _, _, rfl, rfl, gl4, lt, ?_⟩
        exact ⟨_, _, ys ++ [.ref a], ps ++ [(j, z)], rfl, same_upd sm4 f1, upd_same, Its.snoc (its_upd gl4 (its.same s4)) (it_upd gl4 h), by rw [List.length_append, hl]; rfl, snoc rfl⟩
      | @int j h =>
        refine ⟨_, rfl, .int j, .ref (ga K "Item"), .type "int", _, _, rfl, .own _, .inl (.base (.int _)), (T.kind (by decide)).1, _, rfl, ?_⟩
        refine ⟨_, rfl, .int j, "int", rfl, .int j, _, rfl, ?_⟩
        rw [h]
        refine ⟨_, rfl, .inl ⟨rfl, _, SqL.of gl4⟩, _, rfl, fun x dx hx1 hd1 hne1 => item_mk hx1 hd1 hne1 h (by decide +kernel) (by decide) fun H5 I5 s5 => ⟨rfl, ?_⟩⟩
        have gl5 := s5 _ _ gl4
        refine ⟨l, _, _, rfl, rfl, gl5, lt, ?_⟩
        exact ⟨_, _, ys ++ [.ref x], ps ++ [(j, ("" : Str))], rfl, same_upd (sm4.trans s5) f1, upd_same, Its.snoc (its_upd gl5 ((its.same s4).same s5)) (it_upd gl5 I5), by rw [List.length_append, hl]; rfl, snoc rfl⟩
      | @bad x t' b nb =>
        refine ⟨_, rfl, x, .ref (ga K "Item"), .type t', _, _, rfl, .own _, .inl b.ty, (T.kind (bv_kind b)).1, _, rfl, ?_⟩
        refine ⟨_, rfl, x, t', rfl, b, _, rfl, ?_⟩
        rw [nb]
        refine ⟨_, rfl, ?_⟩
        exact err_out fun d H5 s5 e5 => kb i ps d H5 hl hp eo (sm4.trans s5) e5
    · rintro σ H3 ⟨kv, vv, ys, ps, rfl, sm, gl, its, hl, hp⟩
      refine ⟨_, rfl, kg ps l H3 ys ?_ f1 sm gl its⟩
      refine List.ext_getElem? fun m => ?_
      by_cases h : m < ps.length
      · rw [List.getElem?_map, List.getElem?_eq_getElem h]
        exact hp m _ (List.getElem?_eq_getElem h)
      · rw [List.getElem?_eq_none (by omega), List.getElem?_eq_none (by rw [List.length_map]; omega)]
end
end K10
namespace K10
open PySem PySem.Spec PyProof.Rows L2 He Tw
def spTwo (K : Fg) (f : Int → Str → Int → Str → Bool) : Sp := fun vs H Q _ => ∃ (a b : Addr) (i j : Int) (z u : Str), vs = [.ref a, .ref b] ∧ It K H a i z ∧ It K H b j u ∧ Q (.bl (f i z j u)) H
def fBefore (i : Int) (_ : Str) (j : Int) (_ : Str) : Bool := decide (i < j)
/-- in order up to n pairs -/
def Up (ps : List (Int × Str)) (n : Nat) : Prop := ∀ (m : Nat) (a b : Int × Str), m < n → ps[m]? = some a → ps[m + 1]? = some b → a.1 ≤ b.1
def spNeed (K : Fg) : Sp := fun vs H Q E => ∃ (l : Addr) (most : Int) (ys : List V) (ps : List (Int × Str)), vs = [.ref l, .int most] ∧ H l = some (.lst ys) ∧ Its K H ys ps ∧ ys.length ≤ 900 ∧
  (Up ps ps.length → (ps.length : Int) ≤ most → Q .non H) ∧
  (∀ (k : Nat) (a b : Int × Str), ps[k]? = some a → ps[k + 1]? = some b → b.1 < a.1 → Up ps k → ∀ (d : Addr) (H' : Hp), Same H H' → H' d = some (.xd [("at", .int (1 + (k : Int)))]) → E (.ref (ga K "Disordered")) (some d) H') ∧
  (Up ps ps.length → most < (ps.length : Int) → ∀ (d : Addr) (H' : Hp), Same H H' → H' d = some (.xd [("most", .int most)]) → E (.ref (ga K "TooMany")) (some d) H')
theorem its_len {K : Fg} {H : Hp} {ys : List V} {ps : List (Int × Str)} (h : Its K H ys ps) : ys.length = ps.length := Paired.length h
theorem its_at {K : Fg} {H : Hp} : ∀ {ys : List V} {ps : List (Int × Str)} {i : Nat} {p : Int × Str}, Its K H ys ps → ps[i]? = some p → ∃ a, ys[i]? = some (V.ref a) ∧ It K H a p.1 p.2
  | _, _, 0, _, .cons ⟨a, h1, h2⟩ _, e => by
    cases e
    exact ⟨a, congrArg some h1, h2⟩
  | _, _, n + 1, _, .cons _ t, e => its_at (i := n) (show Its _ _ _ _ from t) e
abbrev s_bef : Stmt := inClass (topS 17) 3
theorem sc_bef : FnScope ["self", "other"] ["self", "other"] (defScope s_bef) := ⟨rfl, rfl, rfl, by decide +kernel, rfl, by decide +kernel, by decide +kernel⟩
abbrev s_need : Stmt := topS 20
abbrev N_need : List Str := ["items", "most", "k"]
theorem sc_need : FnScope N_need ["items", "most"] (defScope s_need) := ⟨rfl, rfl, rfl, by decide +kernel, rfl, by decide +kernel, by decide +kernel⟩
section
variable {P : Program} {w : World} {K : Fg} {mg : Str → Option Value} {base : Heap}
theorem ok_bef {f : Addr} {fd : FuncData} (F : FnP K "before" "Item.before" s_bef f fd) (T : Txt K mg) : FnOk P w K mg base CX0 1 f fd ["self", "other"] (spTwo K fBefore) := by
  refine F.ok sc_bef (fun vs H Q E h => ?_) (fun cdv A outer s H vs Q E hr h => ?_)
  · obtain ⟨a, b, i, j, z, u, rfl, _⟩ := h
    rfl
  · obtain ⟨a, b, i, j, z, u, rfl, ⟨dx, ha⟩, ⟨db, hb⟩, k⟩ := h
    refine ⟨_, PSs.nox (pss_one (ps_ret (pe_cmpR op_lt (pe_fld (pv 0) rfl) (pe_fld (pv 1) rfl) (nomark _)))), ?_⟩
    exact ⟨_, rfl, a, _, dx, _, _, rfl, ha, T.cls, T.na (by decide +kernel), rfl, _, rfl, b, _, db, _, _, rfl, hb, T.cls, T.na (by decide +kernel), rfl, _, _, rfl, rfl, k⟩
theorem ok_need {f : Addr} {fd fdB fdD fdM : FuncData} (F : FnP K "need_row" "need_row" s_need f fd) (FB : FnP K "before" "Item.before" s_bef (ma K (ga K "Item") "before") fdB)
    (FD : FnP K "__init__" "Disordered.__init__" (s_err 7) (ma K (ga K "Disordered") "__init__") fdD) (FM : FnP K "__init__" "TooMany.__init__" (s_err 8) (ma K (ga K "TooMany") "__init__") fdM) (T : Txt K mg) : FnOk P w K mg base (L2.CX P w) 3 f fd ["items", "most"] (spNeed K) := by
  have zr : mg "range" = none := T.bl (by decide +kernel)
  have zlen : mg "len" = none := T.bl (by decide +kernel)
  have gD : mg "Disordered" = some (.ref (ga K "Disordered")) := T.cl (by decide +kernel)
  have gM : mg "TooMany" = some (.ref (ga K "TooMany")) := T.cl (by decide +kernel)
  have mD : (("Disordered", 7, "at") : Str × Nat × Str) ∈ errs := by decide +kernel
  have mM : (("TooMany", 8, "most") : Str × Nat × Str) ∈ errs := by decide +kernel
  obtain ⟨iD, tD⟩ := T.ini mD
  obtain ⟨iM, tM⟩ := T.ini mM
  have G_bef : FnOk P w K mg base CX0 1 _ fdB ["self", "other"] (spTwo K fBefore) := ok_bef FB T
  have G_dis : FnOk P w K mg base CX0 1 _ fdD ["self", "at"] (spIni (ga K "Disordered") "at") := ok_Disordered FD T
  have G_many : FnOk P w K mg base CX0 1 _ fdM ["self", "most"] (spIni (ga K "TooMany") "most") := ok_TooMany FM T
  have b_bef : Binds K fdB ["self", "other"] [] := FB.bindsN fun _ _ _ _ _ _ us hl => match us, hl with | [_, _], _ => rfl
  have b_dis : Binds K fdD ["self", "at"] [] := FD.bindsN fun _ _ _ _ _ _ us hl => match us, hl with | [_, _], _ => rfl
  have b_many : Binds K fdM ["self", "most"] [] := FM.bindsN fun _ _ _ _ _ _ us hl => match us, hl with | [_, _], _ => rfl
  refine F.ok sc_need (fun vs H Q E h => ?_) (fun cdv A outer s H vs Q E hr h => ?_)
  · obtain ⟨l, most, ys, ps, rfl, _⟩ := h
    rfl
  · obtain ⟨l, most, ys, ps, rfl, hl, its, hn, kg, kd, km⟩ := h
    have ln := its_len its
    refine ⟨_, (pss_cons (ps_for (passes_of rfl) rfl (pi_range2 rfl zr (pa_cons pe_int (pa_cons (pe_callB call_len (by rfl) zlen (by decide +kernel) (pa_cons (pv 0) pa_nil)) pa_nil))) (pg_name (i := 2) sc_need.nd rfl (Or.inl rfl))
    (pss_one (ps_if (pt_val (pe_meth (E := E0) (pe_ix ix_list (pv 0) (pv 2) (fun _ _ => rfl)) T.cls T.mtB G_bef (hr.mono (by decide)) b_bef .nil pass0 (pa_cons (pe_ix ix_list (pv 0) (pe_op op_sub (pv 2) pe_int) (fun _ _ => rfl)) pa_nil))) (pss_one (ps_raise rfl (takes_of rfl rfl rfl rfl) (pmk_oex (T.xc mD).ox iD tD G_dis (hr.mono (by decide)) b_dis .nil pass0 rfl gD (pa_cons (pv 2) pa_nil)))) pss_nil)))
    (pss_one (ps_if (pt_cmpR op_gt (pe_callB call_len (by rfl) zlen (by decide +kernel) (pa_cons (pv 0) pa_nil)) (pv 1) (nomark _)) (pss_one (ps_raise rfl (takes_of rfl rfl rfl rfl) (pmk_oex (T.xc mM).ox iM tM G_many (hr.mono (by decide)) b_many .nil pass0 rfl gM (pa_cons (pv 1) pa_nil)))) pss_nil))), ?_⟩
    have len900 : ys.length ≤ sizeLine := Nat.le_trans hn (by decide)
    refine ⟨_, rfl, _, _, rfl, .inl ⟨_, SqL.of hl, rfl⟩, 1, (ys.length : Int), rfl, ⟨by decide, by decide, by omega, by omega⟩, for_range (lo := 1) (n := ((ys.length : Int) - 1).toNat) (fun i σ H' => H' = H ∧ (∃ kv : Option V, σ = [some (.ref l), some (.int most), kv]) ∧ Up ps i) ⟨rfl, ⟨none, rfl⟩, fun m a b h => absurd h (Nat.not_lt_zero _)⟩ ?_ ?_⟩
    · rintro i σ H1 hi ⟨rfl, ⟨kv, rfl⟩, up⟩
      have h1 : i < ps.length := by omega
      have h2 : i + 1 < ps.length := by omega
      obtain ⟨a, ea, Ia⟩ := its_at its (List.getElem?_eq_getElem h2)
      obtain ⟨b, eb, Ib⟩ := its_at its (List.getElem?_eq_getElem h1)
      obtain ⟨dx, hA⟩ := id Ia
      refine ⟨_, rfl, _, rfl, l, _, _, .ref a, rfl, rfl, SqL.of hl, atI_of (by omega) (by rw [show (1 + (i : Int)).toNat = i + 1 by omega]; exact ea), ?_⟩
      refine ⟨a, dx, _, rfl, hA, rfl, _, rfl, _, rfl, _, _, rfl, rfl, l, _, _, .ref b, rfl, rfl, SqL.of hl, atI_of (by omega) (by rw [show (1 + (i : Int) - 1).toNat = i by omega]; exact eb), ?_⟩
      refine ⟨a, b, _, _, _, _, rfl, Ia, Ib, _, rfl, ite2 (fun hlt => ?_) (fun hge => ?_)⟩
      · refine ⟨_, rfl, err_out fun d H5 s5 e5 => kd i _ _ (List.getElem?_eq_getElem h1) (List.getElem?_eq_getElem h2) (of_decide_eq_true hlt) up d H5 s5 e5⟩
      · refine ⟨rfl, ⟨_, rfl⟩, fun m p q hm ep eq => ?_⟩
        by_cases h : m < i
        · exact up m p q h ep eq
        · have e : m = i := by omega
          subst e
          rw [List.getElem?_eq_getElem h1] at ep
          rw [List.getElem?_eq_getElem h2] at eq
          cases ep
          cases eq
          have z : ¬ (ps[m + 1].1 < ps[m].1) := fun y => hge (decide_eq_true y)
          omega
    · rintro σ H1 ⟨rfl, ⟨kv, rfl⟩, up⟩
      have all : Up ps ps.length := fun m a b hm ea eb => by
        have h : m + 1 < ps.length := (List.getElem?_eq_some_iff.mp eb).1
        exact up m a b (by omega) ea eb
      refine ⟨_, rfl, _, _, rfl, .inl ⟨_, SqL.of hl, rfl⟩, _, rfl, _, _, rfl, rfl, _, rfl, ite2 (fun hgt => ?_) (fun hle => ?_)⟩
      · have h := of_decide_eq_true hgt
        exact ⟨_, rfl, err_out fun d H5 s5 e5 => km all (by omega) d H5 s5 e5⟩
      · have h : ¬ (most < (ys.length : Int)) := fun y => hle (decide_eq_true y)
        exact kg all (by omega)
end
end K10
namespace K10
open PySem PySem.Spec PyProof.Rows L2 He Tw
theorem it_put {K : Fg} {H : Hp} {l a : Addr} {o : HO} {i : Int} {z : Str} (hl : ∀ dx i z, H l ≠ some (.ins (ga K "Item") dx [("rank", .int i), ("name", .str z)])) (h : It K H a i z) : It K (upd H l o) a i z := by
  obtain ⟨dx, h⟩ := h
  exact ⟨dx, by rw [upd_ne (fun e => hl dx i z (by rw [← e]; exact h))]; exact h⟩
theorem its_put {K : Fg} {H : Hp} {l : Addr} {o : HO} (hl : ∀ dx i z, H l ≠ some (.ins (ga K "Item") dx [("rank", .int i), ("name", .str z)])) : ∀ {ys : List V} {ps : List (Int × Str)}, Its K H ys ps → Its K (upd H l o) ys ps
  | _, _, .nil => .nil
  | _, _, .cons ⟨a, h1, h2⟩ t => .cons ⟨a, h1, it_put hl h2⟩ (its_put hl t)
/-- what stands for a row's items, told -/
structure Src (K : Fg) (H : Hp) (q : Addr) (xs : List V) (os : List (Option (Int × Str))) : Prop where
  seq : Seq K H q xs
  few : xs.length ≤ 900
  len : os.length = xs.length
  vv : ∀ (i : Nat) (x : V), xs[i]? = some x → ∃ o : Option (Int × Str), os[i]? = some o ∧ Vv K H x o
theorem Src.same {K : Fg} {H H' : Hp} {q : Addr} {xs : List V} {os : List (Option (Int × Str))} (e : Same H H') (h : Src K H q xs os) : Src K H' q xs os :=
  ⟨seq_same e h.seq, h.few, h.len, fun i x hx => by
    obtain ⟨o, h1, h2⟩ := h.vv i x hx
    exact ⟨o, h1, h2.same e⟩⟩
/-- how the making of a row goes wrong: which error, its field, its value -/
inductive Bad (os : List (Option (Int × Str))) : Str → Str → Int → Prop where
  | item {n : Nat} {ps : List (Int × Str)} (h1 : ps.length = n) (h2 : ∀ (m : Nat) (p : Int × Str), ps[m]? = some p → os[m]? = some (some p)) (h3 : os[n]? = some none) : Bad os "BadItem" "part" (n : Nat)
  | order {k : Nat} {ps : List (Int × Str)} {a b : Int × Str} (h0 : os = ps.map some) (h1 : ps[k]? = some a) (h2 : ps[k + 1]? = some b) (h3 : b.1 < a.1) (h4 : Up ps k) : Bad os "Disordered" "at" (1 + (k : Int))
  | many {ps : List (Int × Str)} (h0 : os = ps.map some) (h1 : Up ps ps.length) (h2 : (200 : Int) < (ps.length : Int)) : Bad os "TooMany" "most" 200
/-- a row made -/
def spRow (K : Fg) : Sp := fun vs H Q E => ∃ (a q dx : Addr) (xs : List V) (os : List (Option (Int × Str))), vs = [.ref a, .ref q] ∧ H a = some (.ins (ga K "Row") dx []) ∧ Src K H q xs os ∧
  (∀ (ps : List (Int × Str)), os = ps.map some → Up ps ps.length → ps.length ≤ 200 → ∀ (H' : Hp) (ys : List V), But a H H' → RowAt K H' a ys → Its K H' ys ps → Q .non H') ∧
  (∀ (x f : Str) (v : Int), Bad os x f v → ∀ (d : Addr) (H' : Hp), Same H H' → H' d = some (.xd [(f, .int v)]) → E (.ref (ga K x)) (some d) H')
abbrev s_row : Stmt := inClass (topS 27) 1
abbrev N_row : List Str := ["self", "items", "found"]
theorem sc_row : FnScope N_row ["self", "items"] (defScope s_row) := ⟨rfl, rfl, rfl, by decide +kernel, rfl, by decide +kernel, by decide +kernel⟩
section
variable {P : Program} {w : World} {K : Fg} {mg : Str → Option Value} {base : Heap}
theorem ok_row {f fA fN : Addr} {fd fdA fdN : FuncData} {dvs : List V} (F : FunD K "__init__" "Row.__init__" (defArgs s_row) (defBody s_row) (defScope s_row) dvs [] f fd) (FA : FnP K "as_items" "as_items" s_as fA fdA) (gA : mg "as_items" = some (.ref fA)) (G_as : FnOk P w K mg base (L2.CX P w) 5 fA fdA ["values"] (spAs K))
    (FN : FnP K "need_row" "need_row" s_need fN fdN) (gN : mg "need_row" = some (.ref fN)) (G_need : FnOk P w K mg base (L2.CX P w) 3 fN fdN ["items", "most"] (spNeed K)) (T : Txt K mg) : FnOk P w K mg base (L2.CX P w) 6 f fd ["self", "items"] (spRow K) := by
  have ztup : mg "tuple" = none := T.bl (by decide +kernel)
  have b_as : Binds K fdA ["values"] [] := FA.bindsN fun _ _ _ _ _ _ us hl => match us, hl with | [_], _ => rfl
  have b_need : Binds K fdN ["items", "most"] [] := FN.bindsN fun _ _ _ _ _ _ us hl => match us, hl with | [_, _], _ => rfl
  obtain ⟨um, hm⟩ := T.most
  refine F.ok sc_row (fun vs H Q E h => ?_) (fun cdv A outer s H vs Q E hr h => ?_)
  · obtain ⟨a, q, dx, xs, os, rfl, _⟩ := h
    rfl
  · obtain ⟨a, q, dx, xs, os, rfl, ha, S, kg, kb⟩ := h
    refine ⟨_, (pss_cons (ps_set (i := 2) sc_row.nd rfl (Or.inl rfl) (pe_callS G_as (hr.mono (by decide)) rfl gA FA.kp b_as (fun σ => passAt (takes_of rfl rfl rfl rfl) σ) (pa_cons (pv 1) pa_nil)))
    (pss_cons (ps_expr (pe_callS G_need (hr.mono (by decide)) rfl gN FN.kp b_need (fun σ => passAt (takes_of rfl rfl rfl rfl) σ) (pa_cons (pv 2) (pa_cons (pe_con (pv 0) rfl) pa_nil))))
    (pss_one (ps_fld (pv 0) (pe_callTy call_tuple_of (by rfl) ztup (by decide +kernel) (pa_cons (pv 2) pa_nil)) rfl)))), ?_⟩
    refine ⟨_, rfl, q, xs, os, rfl, S.seq, S.few, S.len, S.vv, fun ps l H1 ys e0 h0 s1 g1 its => ?_, fun n ps d H1 h1 h2 h3 s1 e1 => kb _ _ _ (.item h1 h2 h3) d H1 s1 e1⟩
    have ha1 := s1 _ _ ha
    have hl9 : ys.length ≤ 900 := by
      have h1 := S.len
      have h2 := its_len its
      rw [e0, List.length_map] at h1
      have := S.few
      omega
    refine ⟨_, rfl, _, rfl, a, _, dx, _, .int 200, um, rfl, ha1, T.clsR, hm, rfl, l, 200, ys, ps, rfl, g1, its, hl9, fun up few => ?_, fun k p p' h1 h2 h3 h4 d H2 s2 e2 => kb _ _ _ (.order e0 h1 h2 h3 h4) d H2 (s1.trans s2) e2, fun up big d H2 s2 e2 => kb _ _ _ (.many e0 up big) d H2 (s1.trans s2) e2⟩
    refine ⟨_, rfl, l, ys, rfl, .inl ⟨SqL.of g1, fun t ht => ⟨_, rfl, a, _, dx, _, rfl, (same_new ht) _ _ ha1, T.clsR, T.naR, (by show 0 < 1000; decide), ?_⟩⟩⟩
    have hat : a ≠ t := ne_of_none ha1 ht
    refine kg ps e0 up (by omega) _ ys (((But.of s1).trans (But.of (same_new ht))).trans But.upd) ⟨dx, t, upd_same, by rw [upd_ne hat.symm]; exact upd_same⟩ (its_put (fun dx' i z e => ?_) (its.same (same_new ht)))
    rw [(same_new ht) _ _ ha1] at e
    exact nomatch (HO.ins.inj (Option.some.inj e)).2.2
end
end K10
namespace K10
open PySem PySem.Spec PyProof.Rows L2 He Tw
def spListed (K : Fg) : Sp := fun vs H Q _ => ∃ (a : Addr) (ys : List V), vs = [.ref a] ∧ RowAt K H a ys ∧ ∀ (l : Addr) (H' : Hp), H l = none → Same H H' → H' l = some (.lst ys) → Q (.ref l) H'
def rk (ps : List (Int × Str)) : List Int := ps.map fun p => p.1
def spRanks (K : Fg) : Sp := fun vs H Q _ => ∃ (a : Addr) (ys : List V) (ps : List (Int × Str)), vs = [.ref a] ∧ RowAt K H a ys ∧ Its K H ys ps ∧ ys.length ≤ 900 ∧ ∀ (l : Addr) (H' : Hp), H l = none → Same H H' → H' l = some (.lst ((rk ps).map V.int)) → Q (.ref l) H'
def spLen (K : Fg) : Sp := fun vs H Q _ => ∃ (a : Addr) (ys : List V), vs = [.ref a] ∧ RowAt K H a ys ∧ ys.length ≤ 900 ∧ Q (.int (ys.length : Nat)) H
def spEqR (K : Fg) : Sp := fun vs H Q _ => ∃ (a b : Addr) (ys zs : List V) (ps us : List (Int × Str)), vs = [.ref a, .ref b] ∧ RowAt K H a ys ∧ Its K H ys ps ∧ ys.length ≤ 900 ∧ RowAt K H b zs ∧ Its K H zs us ∧ zs.length ≤ 900 ∧ rk ps = rk us ∧ ∀ H', Same H H' → Q (.bl true) H'
theorem RowAt.same {K : Fg} {H H' : Hp} {a : Addr} {ys : List V} (e : Same H H') (h : RowAt K H a ys) : RowAt K H' a ys := by
  obtain ⟨dx, t, h1, h2⟩ := h
  exact ⟨dx, t, e _ _ h1, e _ _ h2⟩
theorem fldK {X : Cx} {e : Expr} {f : Str} {pos : Pos} {ta : TE} (K : Fg) (he : PE X e ta) (hb : attributeBase e f X.env (eval e X.env) = eval e X.env := by rfl) (h : X.K = K := by rfl) : PE X (.Attribute e f pos) (tFld K ta f) := by
  subst h
  exact pe_fld he hb
abbrev s_lst : Stmt := inClass (topS 27) 10
theorem sc_lst : FnScope ["self"] ["self"] (defScope s_lst) := ⟨rfl, rfl, rfl, by decide +kernel, rfl, by decide +kernel, by decide +kernel⟩
abbrev s_rks : Stmt := inClass (topS 27) 11
abbrev N_rks : List Str := ["self", "item"]
theorem sc_rks : FnScope N_rks ["self"] (defScope s_rks) := ⟨rfl, rfl, rfl, by decide +kernel, rfl, by decide +kernel, by decide +kernel⟩
abbrev s_len : Stmt := inClass (topS 27) 3
theorem sc_len : FnScope ["self"] ["self"] (defScope s_len) := ⟨rfl, rfl, rfl, by decide +kernel, rfl, by decide +kernel, by decide +kernel⟩
abbrev s_eqr : Stmt := inClass (topS 27) 9
theorem sc_eqr : FnScope ["self", "other"] ["self", "other"] (defScope s_eqr) := ⟨rfl, rfl, rfl, by decide +kernel, rfl, by decide +kernel, by decide +kernel⟩
section
variable {P : Program} {w : World} {K : Fg} {mg : Str → Option Value} {base : Heap}
theorem ok_lst {f : Addr} {fd : FuncData} (F : FnP K "listed" "Row.listed" s_lst f fd) (T : Txt K mg) : FnOk P w K mg base CX0 1 f fd ["self"] (spListed K) := by
  have zlist : mg "list" = none := T.bl (by decide +kernel)
  refine F.ok sc_lst (fun vs H Q E h => ?_) (fun cdv A outer s H vs Q E hr h => ?_)
  · obtain ⟨a, ys, rfl, _⟩ := h
    rfl
  · obtain ⟨a, ys, rfl, ⟨dx, t, ha, ht⟩, k⟩ := h
    refine ⟨_, PSs.nox (pss_one (ps_ret (pe_callTy call_list_of (by rfl) zlist (by decide +kernel) (pa_cons (pe_fld (pv 0) rfl) pa_nil)))), ?_⟩
    exact ⟨_, rfl, a, _, dx, _, _, rfl, ha, T.clsR, T.naR, rfl, t, ys, rfl, .inr (SqT.of ht), fun l hl => k l _ hl (same_new hl) upd_same⟩
theorem ok_rks {f : Addr} {fd : FuncData} (F : FnP K "ranks" "Row.ranks" s_rks f fd) (T : Txt K mg) : FnOk P w K mg base CX0 1 f fd ["self"] (spRanks K) := by
  refine F.ok sc_rks (fun vs H Q E h => ?_) (fun cdv A outer s H vs Q E hr h => ?_)
  · obtain ⟨a, ys, ps, rfl, _⟩ := h
    rfl
  · obtain ⟨a, ys, ps, rfl, ⟨dx, t, ha, ht⟩, its, hn, k⟩ := h
    refine ⟨_, PSs.nox (pss_one (ps_ret (pe_lc (own := [("item", 1)]) (g := gName 1) (tt := tYes) (by rfl) sc_rks.nd (pi_tup (pe_fld (pv 0) rfl)) (blkOk_by (own := [("item", 1)]) (N := N_rks) (sc := defScope s_rks) (by decide +kernel)) (fun _ _ _ _ _ => (pg_name (i := 1) sc_rks.nd rfl (Or.inl rfl))) (fun _ _ _ _ _ => pts_nil) (fun _ _ _ _ _ => (fldK K (pv 1)))))), ?_⟩
    have ln := its_len its
    refine ⟨_, rfl, a, _, dx, _, _, rfl, ha, T.clsR, T.naR, rfl, t, rfl, ⟨ys, SqT.of ht⟩, fun D hD => lc_tup (K := K) (a := t) (xs := ys) (fun i H' => Same H H' ∧ H' D = some (.lst (((rk ps).take i).map V.int))) ⟨same_new hD, upd_same⟩ (fun _ _ _ q => SqT.of (q.1 _ _ ht)) ?_ ?_⟩
    · rintro i x H' hx ⟨sD, gD⟩
      have hi : i < ps.length := by
        have := (List.getElem?_eq_some_iff.mp hx).1
        omega
      obtain ⟨b, eb, Ib⟩ := its_at its (List.getElem?_eq_getElem hi)
      rw [hx] at eb
      cases eb
      obtain ⟨db, hb⟩ := Ib.same sD
      refine ⟨rfl, _, rfl, b, _, db, _, _, rfl, hb, T.cls, T.na (by decide +kernel), rfl, _, gD, ?_, same_upd sD hD, ?_⟩
      · rw [List.length_map]
        exact Nat.lt_of_le_of_lt (List.length_take_le' _ _) (by
          unfold rk
          rw [List.length_map]
          exact Nat.lt_of_lt_of_le (show ps.length < 1000 by omega) (by decide))
      · have e : (rk ps)[i]? = some ps[i].1 := by
          unfold rk
          rw [List.getElem?_map, List.getElem?_eq_getElem hi]
          rfl
        rw [upd_same, List.take_add_one, e, List.map_append]
        rfl
    · rintro H' ⟨sD, gD⟩
      rw [List.take_of_length_le (by unfold rk; rw [List.length_map]; omega)] at gD
      exact k D H' hD sD gD
theorem ok_len {f : Addr} {fd : FuncData} (F : FnP K "__len__" "Row.__len__" s_len f fd) (T : Txt K mg) : FnOk P w K mg base CX0 1 f fd ["self"] (spLen K) := by
  have zlen : mg "len" = none := T.bl (by decide +kernel)
  refine F.ok sc_len (fun vs H Q E h => ?_) (fun cdv A outer s H vs Q E hr h => ?_)
  · obtain ⟨a, ys, rfl, _⟩ := h
    rfl
  · obtain ⟨a, ys, rfl, ⟨dx, t, ha, ht⟩, hn, k⟩ := h
    refine ⟨_, PSs.nox (pss_one (ps_ret (pe_callB call_len (by rfl) zlen (by decide +kernel) (pa_cons (pe_fld (pv 0) rfl) pa_nil)))), ?_⟩
    exact ⟨_, rfl, a, _, dx, _, _, rfl, ha, T.clsR, T.naR, rfl, _, _, rfl, .inr ⟨_, SqT.of ht, rfl⟩, k⟩
end
end K10
namespace K10
open PySem PySem.Spec PyProof.Rows L2 He Tw
/-- references to pairs of these ranks and names -/
def Prs (H : Hp) (ts : List V) (ps : List (Int × Str)) : Prop := Paired (fun v p => ∃ t, v = V.ref t ∧ H t = some (.tup [.int p.1, .str p.2])) ts ps
theorem Prs.keep {H H' : Hp} (k : ∀ t xs, H t = some (.tup xs) → H' t = some (.tup xs)) : ∀ {ts : List V} {ps : List (Int × Str)}, Prs H ts ps → Prs H' ts ps
  | _, _, .nil => .nil
  | _, _, .cons ⟨t, h1, h2⟩ r => .cons ⟨t, h1, k _ _ h2⟩ (Prs.keep k r)
theorem Prs.snoc {H : Hp} : ∀ {ts : List V} {ps : List (Int × Str)} {t : Addr} {p : Int × Str}, Prs H ts ps → H t = some (.tup [.int p.1, .str p.2]) → Prs H (ts ++ [.ref t]) (ps ++ [p])
  | _, _, _, _, .nil, h => .cons ⟨_, rfl, h⟩ .nil
  | _, _, _, _, .cons x r, h => .cons x (Prs.snoc r h)
/-- a pair that makes an item -/
def Gd (p : Int × Str) : Prop := p.1.natAbs ≤ 10 ^ 29 + 2 * 10 ^ 12 ∧ textOk p.2 = true ∧ p.2.length ≤ 8
def Gs (p : Int × Str) : Prop := p.1.natAbs ≤ 10 ^ 29 + 10 ^ 12 ∧ textOk p.2 = true ∧ p.2.length ≤ 8
theorem Gs.gd {p : Int × Str} (h : Gs p) : Gd p := ⟨Nat.le_trans h.1 (by decide), h.2⟩
theorem up_snoc {ps : List (Int × Str)} {a : Int × Str} (h : Up ps ps.length) (hl : ∀ q, ps.getLast? = some q → q.1 ≤ a.1) : Up (ps ++ [a]) (ps ++ [a]).length := fun m x y hm ex ey => by
  have h2 : m + 1 < (ps ++ [a]).length := (List.getElem?_eq_some_iff.mp ey).1
  rw [List.length_append, List.length_singleton] at h2
  rw [List.getElem?_append_left (by omega)] at ex
  by_cases h3 : m + 1 < ps.length
  · rw [List.getElem?_append_left h3] at ey
    exact h m x y (by omega) ex ey
  · have e : m + 1 = ps.length := by omega
    rw [e, List.getElem?_append_right (Nat.le_refl _), Nat.sub_self] at ey
    cases ey
    refine hl x ?_
    rw [List.getLast?_eq_getElem?, show ps.length - 1 = m by omega]
    exact ex
def spPairs : Sp := fun vs H Q _ => ∃ (p l : Addr) (most : Nat) (c : Nat), vs = [.ref p, .int (most : Nat)] ∧ most ≤ 100 ∧ PenL H p l c ∧ c ≤ 500000 ∧
  ∀ (f : Addr) (H' : Hp) (ts : List V) (ps : List (Int × Str)), PenL H' p l (c + 300) → But p H H' → H f = none → f ≠ p → H' f = some (.lst ts) → Prs H' ts ps → ps.length ≤ most → Up ps ps.length → (∀ q ∈ ps, Gs q) → Q (.ref f) H'
abbrev s_pairs : Stmt := topS 34
abbrev N_pairs : List Str := ["_law_pen_here", "_law_most", "_law_rank", "_law_found", "_law_k"]
theorem sc_pairs : FnScope N_pairs ["_law_pen_here", "_law_most"] (defScope s_pairs) := ⟨rfl, rfl, rfl, by decide +kernel, rfl, by decide +kernel, by decide +kernel⟩
section
variable {P : Program} {w : World} {K : Fg} {mg : Str → Option Value} {base : Heap}
theorem ok_pairs {f fD fP : Addr} {fd fdD fdP : FuncData} (F : FnP K "_law_pairs" "_law_pairs" s_pairs f fd) (FD : FnP K "_law_draw" "_law_draw" s_draw fD fdD) (gD : mg "_law_draw" = some (.ref fD)) (FP : FnP K "_law_pick" "_law_pick" s_pick fP fdP) (gP : mg "_law_pick" = some (.ref fP)) (T : Txt K mg) :
    FnOk P w K mg base CX0 3 f fd ["_law_pen_here", "_law_most"] spPairs := by
  have zr : mg "range" = none := T.bl (by decide +kernel)
  have G_draw : FnOk P w K mg base CX0 1 fD fdD ["_law_pen_here", "_law_many"] spDrawL := ok_draw FD T
  have b_draw : Binds K fdD ["_law_pen_here", "_law_many"] [] := FD.bindsN fun _ _ _ _ _ _ us hl => match us, hl with | [_, _], _ => rfl
  have G_pick : FnOk P w K mg base CX0 2 fP fdP ["_law_pen_here", "_law_some"] (spPickL K) := ok_pick FP FD gD T
  have b_pick : Binds K fdP ["_law_pen_here", "_law_some"] [] := FP.bindsN fun _ _ _ _ _ _ us hl => match us, hl with | [_, _], _ => rfl
  refine F.ok sc_pairs (fun vs H Q E h => ?_) (fun cdv A outer s H vs Q E hr h => ?_)
  · obtain ⟨p, l, most, c, rfl, _⟩ := h
    rfl
  · obtain ⟨p, l, most, c, rfl, hm, hP, hc, k⟩ := h
    refine ⟨_, PSs.nox (pss_cons (ps_set (i := 2) sc_pairs.nd rfl (Or.inl rfl) (pe_call G_pick (hr.mono (by decide)) rfl gP FP.kp b_pick .nil pass0 (pa_cons (pv 0) (pa_cons (pe_lstN (pa_cons pe_int (pa_cons (pe_un un_neg pe_int) (pa_cons pe_int (pa_cons (pe_un un_neg (pe_op op_pow pe_int pe_int)) (pa_cons (pe_op op_pow pe_int pe_int) pa_nil)))))) pa_nil))))
    (pss_cons (ps_set (i := 3) sc_pairs.nd rfl (Or.inl rfl) (pe_lstN pa_nil))
    (pss_cons (ps_for PassesOwn.never rfl (pi_range1 rfl zr (pa_cons (pe_call G_draw (hr.mono (by decide)) rfl gD FD.kp b_draw .nil pass0 (pa_cons (pv 0) (pa_cons (pe_op op_add (pv 1) pe_int) pa_nil))) pa_nil)) (pg_name (i := 4) sc_pairs.nd rfl (Or.inl rfl))
    (pss_cons (ps_set (i := 2) sc_pairs.nd rfl (Or.inl rfl) (pe_op op_add (pv 2) (pe_call G_pick (hr.mono (by decide)) rfl gP FP.kp b_pick .nil pass0 (pa_cons (pv 0) (pa_cons (pe_lstN (pa_cons pe_int (pa_cons pe_int (pa_cons pe_int (pa_cons pe_int (pa_cons pe_int (pa_cons pe_int (pa_cons (pe_op op_pow pe_int pe_int) pa_nil)))))))) pa_nil)))))
    (pss_one (ps_expr (pe_bm PySem.F.plainAttrs_list PySem.F.slot_list_append PySem.F.type_list_append mt_append (pv 3) (pa_cons (pe_tupN (pa_cons (pv 2) (pa_cons (pe_call G_pick (hr.mono (by decide)) rfl gP FP.kp b_pick .nil pass0 (pa_cons (pv 0) (pa_cons (pe_lstN (pa_cons pe_str (pa_cons pe_str (pa_cons pe_str (pa_cons pe_str (pa_cons pe_str (pa_cons pe_str pa_nil))))))) pa_nil))) pa_nil))) pa_nil))))))
    (pss_one (ps_ret (pv 3)))))), ?_⟩
    refine ⟨_, rfl, _, rfl, _, _, rfl, rfl, ⟨by decide, by decide, by decide⟩, _, rfl, _, _, rfl, rfl, ⟨by decide, by decide, by decide⟩, sz1000 (by show 5 ≤ 1000; decide), fun q1 H1 f1 m1 s1 g1 => ?_⟩
    refine ⟨p, l, q1, _, c, rfl, SqL.of g1, (hP.new f1).1, (by show 0 < 5; decide), (by show 5 < 1000; decide), hP.same s1, by omega, fun v H2 hv P2 B2 => ?_⟩
    obtain ⟨r0, rfl, hr0⟩ : ∃ r : Int, v = .int r ∧ r.natAbs ≤ 10 ^ 29 := by
      simp only [List.mem_cons, List.not_mem_nil, or_false] at hv
      rcases hv with rfl | rfl | rfl | rfl | rfl
      · exact ⟨_, rfl, by decide⟩
      · exact ⟨_, rfl, by decide⟩
      · exact ⟨_, rfl, by decide⟩
      · exact ⟨_, rfl, by decide⟩
      · exact ⟨_, rfl, by decide⟩
    have B20 : But p H H2 := (But.of s1).trans B2
    refine ⟨sz1000 (Nat.zero_le _), fun lf H3 f3 m3 s3 g3 => ?_⟩
    have P3 := P2.same s3
    refine ⟨_, rfl, _, rfl, _, _, rfl, rfl, p, l, (most : Int) + 1, c + 1, rfl, by omega, by omega, P3, by omega, fun n H4 n0 n1 P4 B4 => ?_⟩
    obtain ⟨nlp, nll⟩ := P2.new f3
    have hlfH : H lf = none := by
      cases e : H lf with
      | none => rfl
      | some o =>
        by_cases h : lf = p
        · exact absurd h nlp
        · rw [B20 lf o e h] at f3
          cases f3
    have B40 : But p H H4 := (B20.trans (But.of s3)).trans B4
    refine ⟨n, rfl, by omega, by omega, for_range (lo := 0) (n := n.toNat) (fun i σ H' => ∃ (r : Int) (kv : Option V) (ts : List V) (ps : List (Int × Str)), σ = [some (.ref p), some (.int (most : Nat)), some (.int r), some (.ref lf), kv] ∧ PenL H' p l (c + 2 + 2 * i) ∧ But p H H' ∧ H' lf = some (.lst ts) ∧ Prs H' ts ps ∧ ps.length = i ∧
      Up ps ps.length ∧ (∀ q, ps.getLast? = some q → q.1 ≤ r) ∧ r.natAbs ≤ 10 ^ 29 + i * 10 ^ 9 ∧ ∀ q ∈ ps, Gs q) ⟨r0, none, [], [], rfl, P4, B40, B4 _ _ g3 nlp, .nil, rfl, (fun m a b h => absurd h (Nat.not_lt_zero _)), (fun q h => nomatch h), (by omega), (fun q h => nomatch h)⟩ ?_ ?_⟩
    · rintro i σ H5 hi ⟨r, kv, ts, ps, rfl, P5, B5, g5, prs, hl, up, last, hr5, gd⟩
      have e9 : (10 : Int) ^ (9 : Int).toNat = 1000000000 := by decide
      refine ⟨_, rfl, _, rfl, _, _, rfl, rfl, ⟨by decide, by decide, by decide⟩, sz1000 (by show 7 ≤ 1000; decide), fun q6 H6 f6 m6 s6 g6 => ?_⟩
      refine ⟨p, l, q6, _, c + 2 + 2 * i, rfl, SqL.of g6, (P5.new f6).1, (by show 0 < 7; decide), (by show 7 < 1000; decide), P5.same s6, by omega, fun v H7 hv P7 B7 => ?_⟩
      obtain ⟨d, rfl, hd0, hd1⟩ : ∃ d : Int, v = .int d ∧ 0 ≤ d ∧ d ≤ 1000000000 := by
        simp only [List.mem_cons, List.not_mem_nil, or_false] at hv
        rcases hv with rfl | rfl | rfl | rfl | rfl | rfl | rfl <;> exact ⟨_, rfl, by decide, by decide⟩
      have g7 := B7 _ _ (s6 _ _ g5) nlp
      refine ⟨_, _, rfl, rfl, _, rfl, .inl ⟨rfl, _, SqL.of g7⟩, _, rfl, _, rfl, sz1000 (by show 6 ≤ 1000; decide), fun q8 H8 f8 m8 s8 g8 => ?_⟩
      refine ⟨p, l, q8, _, c + 3 + 2 * i, rfl, SqL.of g8, (P7.new f8).1, (by show 0 < 6; decide), (by show 6 < 1000; decide), (P7.same s8).mono (by omega), by omega, fun v H9 hv P9 B9 => ?_⟩
      obtain ⟨z, rfl, tz⟩ : ∃ z : Str, v = .str z ∧ textOk z = true ∧ z.length ≤ 8 := by
        simp only [List.mem_cons, List.not_mem_nil, or_false] at hv
        rcases hv with rfl | rfl | rfl | rfl | rfl | rfl <;> exact ⟨_, rfl, by decide +kernel, by decide +kernel⟩
      have g9 := B9 _ _ (s8 _ _ g7) nlp
      refine ⟨sz1000 (by show 2 ≤ 1000; decide), fun t H10 f10 s10 g10 => ?_⟩
      have g10f := s10 _ _ g9
      have BB : But p H5 H10 := ((((But.of s6).trans B7).trans (But.of s8)).trans B9).trans (But.of s10)
      have tup_ne : ∀ {a : Addr} {xs : List V}, H5 a = some (.tup xs) → a ≠ p := fun {a xs} e h => by
        obtain ⟨ns, i', g', h1, _⟩ := P5
        rw [h, h1] at e
        cases e
      have prs10 : Prs H10 ts ps := prs.keep fun a xs e => BB _ _ e (tup_ne e)
      have lt : ts.length < sizeLine := by
        have h1 : ts.length = ps.length := Paired.length prs
        exact Nat.lt_of_lt_of_le (show ts.length < 1000 by omega) (by decide)
      refine ⟨lf, _, _, rfl, rfl, g10f, lt, r + d, _, _, ps ++ [(r + d, z)], rfl, ?_, ?_, upd_same, ?_, ?_, ?_, ?_, ?_, ?_⟩
      · obtain ⟨a1, a2⟩ := P2.new f3
        exact ((P9.same s10).upd a1 a2).mono (by omega)
      · exact fun b o hb hbp => by
          rw [upd_ne (ne_of_none hb hlfH)]
          exact BB b o (B5 b o hb hbp) hbp
      · have ne : ∀ {a : Addr} {xs : List V}, H10 a = some (.tup xs) → a ≠ lf := fun {a xs} e h => by
          rw [h, g10f] at e
          cases e
        refine Prs.snoc (prs10.keep fun a xs e => by
          rw [upd_ne (ne e)]
          exact e) ?_
        rw [upd_ne (ne g10)]
        exact g10
      · rw [List.length_append, hl]
        rfl
      · exact up_snoc up fun q hq => by
          have := last q hq
          show q.1 ≤ r + d
          omega
      · intro q hq
        rw [List.getLast?_append] at hq
        cases hq
        exact Int.le_refl _
      · have h2 : ((i + 1) * 10 ^ 9 : Nat) = i * 10 ^ 9 + 1000000000 := by omega
        omega
      · intro q hq
        rcases List.mem_append.mp hq with h | h
        · exact gd q h
        · have e := List.mem_singleton.mp h
          subst e
          refine ⟨?_, tz⟩
          show (r + d).natAbs ≤ _
          omega
    · rintro σ H5 ⟨r, kv, ts, ps, rfl, P5, B5, g5, prs, hl, up, last, hr5, gd⟩
      exact ⟨_, rfl, k lf H5 ts ps (P5.mono (by omega)) B5 hlfH nlp g5 prs (by omega) up gd⟩
end
end K10
namespace K10
open PySem PySem.Spec PyProof.Rows L2 He Tw
theorem dec_s {i j : Str} : decide (V.str i = V.str j) = decide (i = j) := by
  by_cases h : i = j
  · rw [h]
    simp
  · rw [decide_eq_false h, decide_eq_false fun z => h (V.str.inj z)]
theorem prs_at {H : Hp} : ∀ {ts : List V} {ps : List (Int × Str)} {i : Nat} {x : V}, Prs H ts ps → ts[i]? = some x → ∃ t p, x = V.ref t ∧ ps[i]? = some p ∧ H t = some (.tup [.int p.1, .str p.2])
  | _, _, 0, _, .cons ⟨t, h1, h2⟩ _, e => by
    cases e
    exact ⟨t, _, h1, rfl, h2⟩
  | _, _, n + 1, _, .cons _ r, e => prs_at (i := n) (show Prs _ _ _ from r) e
/-- values that stand for these pairs -/
def Vals' (K : Fg) (H : Hp) (xs : List V) (ps : List (Int × Str)) : Prop := Paired (fun x q => Vv K H x (some q)) xs ps
theorem vals_keep {K : Fg} {H H' : Hp} (k : ∀ a dx i z, H a = some (.ins (ga K "Item") dx [("rank", .int i), ("name", .str z)]) → H' a = some (.ins (ga K "Item") dx [("rank", .int i), ("name", .str z)])) {x : V} {q : Int × Str} (h : Vv K H x (some q)) : Vv K H' x (some q) := by
  cases h with
  | item h =>
    obtain ⟨dx, h⟩ := h
    exact .item ⟨dx, k _ _ _ _ h⟩
  | int h => exact .int h
theorem Vals'.keep {K : Fg} {H H' : Hp} (k : ∀ a dx i z, H a = some (.ins (ga K "Item") dx [("rank", .int i), ("name", .str z)]) → H' a = some (.ins (ga K "Item") dx [("rank", .int i), ("name", .str z)])) : ∀ {xs : List V} {ps : List (Int × Str)}, Vals' K H xs ps → Vals' K H' xs ps
  | _, _, .nil => .nil
  | _, _, .cons h r => .cons (vals_keep k h) (Vals'.keep k r)
theorem Vals'.snoc {K : Fg} {H : Hp} : ∀ {xs : List V} {ps : List (Int × Str)} {x : V} {q : Int × Str}, Vals' K H xs ps → Vv K H x (some q) → Vals' K H (xs ++ [x]) (ps ++ [q])
  | _, _, _, _, .nil, h => .cons h .nil
  | _, _, _, _, .cons x r, h => .cons x (Vals'.snoc r h)
theorem gd_rank {q : Int × Str} (h : Gd q) : rankOk (.int q.1) = true := by
  have h1 : -beyond < q.1 := by
    unfold beyond
    have := h.1
    omega
  have h2 : q.1 < beyond := by
    unfold beyond
    have := h.1
    omega
  show (decide _ && decide _) = true
  rw [decide_eq_true h1, decide_eq_true h2]
  rfl
def spValues (K : Fg) : Sp := fun vs H Q _ => ∃ (p l f : Addr) (ts : List V) (ps : List (Int × Str)) (c : Nat), vs = [.ref p, .ref f] ∧ PenL H p l c ∧ c ≤ 600000 ∧ H f = some (.lst ts) ∧ f ≠ p ∧ Prs H ts ps ∧ ps.length ≤ 400 ∧ (∀ q ∈ ps, Gd q) ∧
  ∀ (g : Addr) (H' : Hp) (xs : List V), PenL H' p l (c + ps.length) → But p H H' → H g = none → g ≠ p → H' g = some (.lst xs) → Vals' K H' xs ps → Q (.ref g) H'
abbrev s_values : Stmt := topS 35
abbrev N_values : List Str := ["_law_pen_here", "_law_pairs_here", "_law_found", "_law_rank", "_law_name"]
theorem sc_values : FnScope N_values ["_law_pen_here", "_law_pairs_here"] (defScope s_values) := ⟨rfl, rfl, rfl, by decide +kernel, rfl, by decide +kernel, by decide +kernel⟩
section
variable {P : Program} {w : World} {K : Fg} {mg : Str → Option Value} {base : Heap}
theorem ok_values {f fD : Addr} {fd fdD fdI : FuncData} {d2 : List Value} (F : FnP K "_law_values" "_law_values" s_values f fd) (FD : FnP K "_law_draw" "_law_draw" s_draw fD fdD) (gD : mg "_law_draw" = some (.ref fD)) (I : Itm P w K mg base fdI d2) (T : Txt K mg) :
    FnOk P w K mg base CX0 5 f fd ["_law_pen_here", "_law_pairs_here"] (spValues K) := by
  have gI : mg "Item" = some (.ref (ga K "Item")) := T.cl (by decide +kernel)
  have G_draw : FnOk P w K mg base CX0 1 fD fdD ["_law_pen_here", "_law_many"] spDrawL := ok_draw FD T
  have b_draw : Binds K fdD ["_law_pen_here", "_law_many"] [] := FD.bindsN fun _ _ _ _ _ _ us hl => match us, hl with | [_, _], _ => rfl
  refine F.ok sc_values (fun vs H Q E h => ?_) (fun cdv A outer s H vs Q E hr h => ?_)
  · obtain ⟨p, l, f, ts, ps, c, rfl, _⟩ := h
    rfl
  · obtain ⟨p, l, f, ts, ps, c, rfl, hP, hc, hf, hfp, prs, hn, gd, k⟩ := h
    refine ⟨_, PSs.nox (pss_cons (ps_set (i := 2) sc_values.nd rfl (Or.inl rfl) (pe_lstN pa_nil))
    (pss_cons (ps_for PassesOwn.never rfl (pi_list (pv 1)) (pg_tup (by rfl) (pgs_cons (pg_name (i := 3) sc_values.nd rfl (Or.inl rfl)) (pgs_cons (pg_name (i := 4) sc_values.nd rfl (Or.inl rfl)) pgs_nil)))
    (pss_one (ps_expr (pe_bm PySem.F.plainAttrs_list PySem.F.slot_list_append PySem.F.type_list_append mt_append (pv 2) (pa_cons (pe_ifExp (PW.pt (pw_and (pt_cmpR op_eq (pv 4) pe_str (nomark _)) (pw_and1 (pt_cmpR op_eq (pe_call G_draw (hr.mono (by decide)) rfl gD FD.kp b_draw .nil pass0 (pa_cons (pv 0) (pa_cons pe_int pa_nil))) pe_int (nomark _))))) (pv 3) (pe_make (E := E0) T.mkI I.ok (hr.mono (by decide)) rfl gI I.b .nil passL (pa_cons (pv 3) (pa_cons (pv 4) pa_nil)))) pa_nil)))))
    (pss_one (ps_ret (pv 2))))), ?_⟩
    have lp : ts.length = ps.length := Paired.length prs
    refine ⟨sz1000 (Nat.zero_le _), fun g H1 f1 m1 s1 g1 => ?_⟩
    obtain ⟨ngp, ngl⟩ := hP.new f1
    refine ⟨_, rfl, f, rfl, ⟨ts, SqL.of (s1 _ _ hf)⟩, for_list (K := K) (a := f) (xs := ts) (fun i σ H' => ∃ (kv nv : Option V) (xs : List V), σ = [some (.ref p), some (.ref f), some (.ref g), kv, nv] ∧ PenL H' p l (c + i) ∧ But p H H' ∧ H' g = some (.lst xs) ∧ Vals' K H' xs (ps.take i)) ⟨none, none, [], rfl, hP.same s1, But.of s1, g1, .nil⟩
      (fun i σ H' _ ⟨_, _, _, _, _, b, _⟩ => SqL.of (b _ _ hf hfp)) ?_ ?_⟩
    · rintro i x σ H2 hx ⟨kv, nv, xs, rfl, P2, B2, g2, vv⟩
      obtain ⟨t, q, rfl, eq, ht⟩ := prs_at prs hx
      obtain ⟨r, z⟩ := q
      have gq : Gd (r, z) := gd _ (List.mem_of_getElem? eq)
      have ntp : t ≠ p := fun h => by
        obtain ⟨ns, i', g', h1, _⟩ := hP
        rw [h, h1] at ht
        cases ht
      have hi : i < ps.length := (List.getElem?_eq_some_iff.mp eq).1
      have lx : xs.length < sizeLine := by
        have h1 : xs.length = (ps.take i).length := Paired.length vv
        rw [List.length_take] at h1
        exact Nat.lt_of_lt_of_le (show xs.length < 1000 by omega) (by decide)
      have tk : ps.take (i + 1) = ps.take i ++ [(r, z)] := by rw [List.take_add_one, eq]; rfl
      -- what is appended
      have fin : ∀ {H3 : Hp} {y : V} {kv nv : Option V}, PenL H3 p l (c + (i + 1)) → But p H2 H3 → Vv K H3 y (some (r, z)) → H3 g = some (.lst xs) ∧ (∃ (kv' nv' : Option V) (xs' : List V), [some (V.ref p), some (.ref f), some (.ref g), kv, nv] = [some (.ref p), some (.ref f), some (.ref g), kv', nv'] ∧ PenL (upd H3 g (.lst (xs ++ [y]))) p l (c + (i + 1)) ∧ But p H (upd H3 g (.lst (xs ++ [y]))) ∧ (upd H3 g (.lst (xs ++ [y]))) g = some (.lst xs') ∧ Vals' K (upd H3 g (.lst (xs ++ [y]))) xs' (ps.take (i + 1))) := fun {H3 y kv nv} P3 B3 vy => by
        have g3 := B3 _ _ g2 ngp
        have kp : ∀ a dx j u, H2 a = some (.ins (ga K "Item") dx [("rank", .int j), ("name", .str u)]) → H3 a = some (.ins (ga K "Item") dx [("rank", .int j), ("name", .str u)]) := fun a dx j u e => B3 _ _ e (fun h => by
          obtain ⟨ns, i', g', h1, _⟩ := P2
          rw [h, h1] at e
          cases e)
        have kg : ∀ a dx j u, H3 a = some (.ins (ga K "Item") dx [("rank", .int j), ("name", .str u)]) → (upd H3 g (.lst (xs ++ [y]))) a = some (.ins (ga K "Item") dx [("rank", .int j), ("name", .str u)]) := fun a dx j u e => by
          rw [upd_ne (fun h => by
            rw [h, g3] at e
            cases e)]
          exact e
        refine ⟨g3, kv, nv, xs ++ [y], rfl, P3.upd ngp ngl, fun b o hb hbp => ?_, upd_same, ?_⟩
        · rw [upd_ne (ne_of_none hb f1)]
          exact B3 b o (B2 b o hb hbp) hbp
        · rw [tk]
          exact Vals'.snoc ((vv.keep kp).keep kg) (vals_keep kg vy)
      have mk : ∀ {H3 : Hp} {R : VK} {x dx : Addr}, H3 x = none → H3 dx = none → dx ≠ x → (∀ H4, It K H4 x r z → Same H3 H4 → R .non H4) → spItem K [.ref x, .int r, .str z] (upd (upd H3 dx (.own x)) x (.ins (ga K "Item") dx [])) R E0 := fun h1 h2 h3 h4 => item_mk h1 h2 h3 (gd_rank gq) (show nameOk (.str z) = true from gq.2.1) (Nat.le_trans gq.2.2 (by decide)) h4
      refine ⟨t, _, rfl, SqT.of (B2 _ _ ht ntp), rfl, ?_⟩
      refine ⟨_, _, rfl, _, _, rfl, rfl, ?_⟩
      refine ⟨_, rfl, .inl ⟨rfl, _, SqL.of g2⟩, ?_⟩
      refine ⟨_, rfl, rfl, _, rfl, ?_⟩
      rw [dec_s]
      refine ite2 (fun hz => ?_) (fun hz => ?_)
      · refine ⟨_, rfl, p, l, 2, c + i, rfl, by decide, by decide, P2, by omega, fun r2 H3 _ _ P3 B3 => ⟨rfl, _, rfl, ?_⟩⟩
        have ez : z = "" := of_decide_eq_true hz
        refine ite2 (fun _ => ?_) (fun _ => ?_)
        · have vy : Vv K H3 (.int r) (some (r, z)) := by
            rw [ez]
            exact .int (gd_rank gq)
          obtain ⟨a1, a2⟩ := fin (kv := some (.int r)) (nv := some (.str z)) P3 B3 vy
          exact ⟨_, rfl, g, _, _, rfl, rfl, a1, lx, a2⟩
        · refine ⟨_, rfl, _, rfl, fun x dx h1 h2 h3 => mk h1 h2 h3 fun H4 I4 s4 => ⟨rfl, ?_⟩⟩
          obtain ⟨a1, a2⟩ := fin (kv := some (.int r)) (nv := some (.str z)) (P3.same s4) (B3.trans (But.of s4)) (.item I4)
          exact ⟨g, _, _, rfl, rfl, a1, lx, a2⟩
      · refine ⟨_, rfl, _, rfl, fun x dx h1 h2 h3 => mk h1 h2 h3 fun H4 I4 s4 => ⟨rfl, ?_⟩⟩
        obtain ⟨a1, a2⟩ := fin (kv := some (.int r)) (nv := some (.str z)) ((P2.same s4).mono (by omega)) (But.of s4) (.item I4)
        exact ⟨g, _, _, rfl, rfl, a1, lx, a2⟩
    · rintro σ H2 ⟨kv, nv, xs, rfl, P2, B2, g2, vv⟩
      rw [List.take_of_length_le (by omega)] at vv
      rw [lp] at P2
      exact ⟨_, rfl, k g H2 xs P2 B2 f1 ngp g2 vv⟩
end
end K10
namespace K10
open PySem PySem.Spec PyProof.Rows L2 He Tw
def spTold (K : Fg) : Sp := fun vs H Q _ => ∃ (f : Addr) (ys : List V) (ps : List (Int × Str)), vs = [.ref f] ∧ H f = some (.lst ys) ∧ Its K H ys ps ∧ ys.length ≤ 900 ∧ ∀ (g : Addr) (H' : Hp) (ts : List V), H g = none → Same H H' → H' g = some (.lst ts) → Prs H' ts ps → Q (.ref g) H'
/-- a value that is no item and no rank, beside the pen -/
structure Odd (H : Hp) (p : Addr) (v : V) : Prop where
  bv : ∃ t, Bv H v t
  bad : rankOk v = false
  ne : ∀ a, v = .ref a → a ≠ p
def spOdd : Sp := fun vs H Q _ => ∃ (p l : Addr) (c : Nat), vs = [.ref p] ∧ PenL H p l c ∧ c ≤ 900000 ∧ ∀ (v : V) (H' : Hp), PenL H' p l (c + 1) → But p H H' → Odd H' p v → Q v H'
abbrev s_told : Stmt := topS 36
abbrev N_told : List Str := ["_law_listed", "_law_item"]
theorem sc_told : FnScope N_told ["_law_listed"] (defScope s_told) := ⟨rfl, rfl, rfl, by decide +kernel, rfl, by decide +kernel, by decide +kernel⟩
section
variable {P : Program} {w : World} {K : Fg} {mg : Str → Option Value} {base : Heap}
theorem ok_told {f : Addr} {fd : FuncData} (F : FnP K "_law_told" "_law_told" s_told f fd) (T : Txt K mg) : FnOk P w K mg base CX0 1 f fd ["_law_listed"] (spTold K) := by
  refine F.ok sc_told (fun vs H Q E h => ?_) (fun cdv A outer s H vs Q E hr h => ?_)
  · obtain ⟨f, ys, ps, rfl, _⟩ := h
    rfl
  · obtain ⟨f, ys, ps, rfl, hf, its, hn, k⟩ := h
    refine ⟨_, PSs.nox (pss_one (ps_ret (pe_lc (own := [("_law_item", 1)]) (g := gName 1) (tt := tYes) (by rfl) sc_told.nd (pi_list (pv 0)) (blkOk_by (own := [("_law_item", 1)]) (N := N_told) (sc := defScope s_told) (by decide +kernel)) (fun _ _ _ _ _ => (pg_name (i := 1) sc_told.nd rfl (Or.inl rfl))) (fun _ _ _ _ _ => pts_nil) (fun _ _ _ _ _ => (pe_tupN (pa_cons (fldK K (pv 1)) (pa_cons (fldK K (pv 1)) pa_nil))))))), ?_⟩
    have ln := its_len its
    refine ⟨_, rfl, f, rfl, ⟨ys, SqL.of hf⟩, fun D hD => lc_list (K := K) (a := f) (xs := ys) (fun i H' => Same H H' ∧ ∃ ts, H' D = some (.lst ts) ∧ Prs H' ts (ps.take i)) ⟨same_new hD, [], upd_same, .nil⟩ (fun _ _ _ q => SqL.of (q.1 _ _ hf)) ?_ ?_⟩
    · rintro i x H' hx ⟨sD, ts, gD, prs⟩
      have hi : i < ps.length := by
        have := (List.getElem?_eq_some_iff.mp hx).1
        omega
      obtain ⟨b, eb, Ib⟩ := its_at its (List.getElem?_eq_getElem hi)
      rw [hx] at eb
      cases eb
      obtain ⟨db, hb⟩ := Ib.same sD
      refine ⟨rfl, _, rfl, b, _, db, _, _, rfl, hb, T.cls, T.na (by decide +kernel), rfl, _, rfl, b, _, db, _, _, rfl, hb, T.cls, T.na (by decide +kernel), rfl, sz1000 (by show 2 ≤ 1000; decide), fun t H2 f2 s2 g2 => ?_⟩
      have gD2 := s2 _ _ gD
      have ne : ∀ {a : Addr} {xs : List V}, H2 a = some (.tup xs) → a ≠ D := fun {a xs} e h => by
        rw [h, gD2] at e
        cases e
      refine ⟨_, gD2, ?_, same_upd (sD.trans s2) hD, _, upd_same, ?_⟩
      · have h1 : ts.length = (ps.take i).length := Paired.length prs
        rw [List.length_take] at h1
        exact Nat.lt_of_lt_of_le (show ts.length < 1000 by omega) (by decide)
      · have tk : ps.take (i + 1) = ps.take i ++ [ps[i]] := by rw [List.take_add_one, List.getElem?_eq_getElem hi]; rfl
        rw [tk]
        refine Prs.snoc ((prs.keep fun a xs e => s2 _ _ e).keep fun a xs e => by
          rw [upd_ne (ne e)]
          exact e) ?_
        rw [upd_ne (ne g2)]
        exact g2
    · rintro H' ⟨sD, ts, gD, prs⟩
      rw [List.take_of_length_le (by omega)] at prs
      exact k D H' ts hD sD gD prs
end
end K10
namespace K10
open PySem PySem.Spec PyProof.Rows L2 He Tw
abbrev s_heard : Stmt := topS 37
abbrev N_heard : List Str := ["_law_ask", "_law_caught", "_law_found", "error"]
theorem sc_heard : FnScope N_heard ["_law_ask"] (defScope s_heard) := ⟨rfl, rfl, rfl, by decide +kernel, rfl, by decide +kernel, by decide +kernel⟩
/-- the word that _law_heard tells of an error -/
def wordOf (x : Str) : Str := if x = "BadItem" then "item" else if x = "BadPlace" then "place" else if x = "Disordered" then "order" else "many"
def Eh (K : Fg) (Q : VK) : XK := fun cls d H => ∃ (e : Str × Nat × Str) (v : Int) (dd : Addr), e ∈ errs ∧ cls = .ref (ga K e.1) ∧ d = some dd ∧ H dd = some (.xd [(e.2.2, .int v)]) ∧ ∀ (q : Addr) (H' : Hp), H q = none → Same H H' → H' q = some (.tup [.str (wordOf e.1), .int v]) → Q (.ref q) H'
def TTh (K : Fg) : (XK → Hp → VK → Prop) → Hp → VK → Prop := fun tl H Q => ∀ (E' : XK) (Q' : VK), (∀ cls d H', Eh K Q cls d H' → E' cls d H') → (∀ H1, (∀ (q : Addr) (H' : Hp), H1 q = none → Same H1 H' → H' q = some (.lst [.non]) → Q (.ref q) H') → Q' .non H1) → tl E' H Q'
theorem Txt.kitT {K : Fg} {mg : Str → Option Value} (T : Txt K mg) {e : Str × Nat × Str} (h : e ∈ errs) : PySem.W.kitOne K (.ref (ga K e.1)) (.ref (ga K e.1)) = some true := by
  rw [T.kit h h, decide_eq_true rfl]
theorem Txt.kitF {K : Fg} {mg : Str → Option Value} (T : Txt K mg) {e d : Str × Nat × Str} (h : e ∈ errs) (g : d ∈ errs) (ne : e.1 ≠ d.1) : PySem.W.kitOne K (.ref (ga K e.1)) (.ref (ga K d.1)) = some false := by
  rw [T.kit h g, decide_eq_false ne]
theorem four {α : Type} {l : List α} (h : l.length = 4) : ∃ a b c d, l = [a, b, c, d] := match l, h with
  | [a, b, c, d], _ => ⟨a, b, c, d, rfl⟩
theorem heard_gives {X : Cx} {g : Addr} {cdg : Value} {q : Str} (T : Txt X.K X.mg) (hu : True) : LamX.GivesTo X N_heard "_law_heard" (defScope s_heard) g cdg (defBody s_heard) "_law_ask" q (TTh X.K) := by
  have zisi : X.mg "isinstance" = none := T.bl (by decide +kernel)
  have gH : X.mg "HeadsError" = some (.ref (ga X.K "HeadsError")) := T.cl (by decide +kernel)
  have gI : X.mg "BadItem" = some (.ref (ga X.K "BadItem")) := T.cl (by decide +kernel)
  have gP : X.mg "BadPlace" = some (.ref (ga X.K "BadPlace")) := T.cl (by decide +kernel)
  have gD : X.mg "Disordered" = some (.ref (ga X.K "Disordered")) := T.cl (by decide +kernel)
  have gM : X.mg "TooMany" = some (.ref (ga X.K "TooMany")) := T.cl (by decide +kernel)
  intro f c' s H Q tl act hc h
  have nd : N_heard.Nodup := sc_heard.nd
  refine ⟨_, (pss_cons (ps_set (i := 1) nd rfl (Or.inl rfl) pe_non)
    (pss_cons (ps_set (i := 2) nd rfl (Or.inl rfl) pe_non)
    (pss_cons (ps_tryL (i := 3) (n := "error") (c := .ref (ga X.K "HeadsError")) (tb := fun W D σ H => ∃ Ech : XK, (∀ cls d σ' H', Ech cls d H' → W cls d σ' H') ∧ σ[0]? = some (some (.ref f)) ∧ H c' = some (LamX.CodeO c' q) ∧ tl Ech H fun v H' => D.nx (σ.set 2 (some v)) H') rfl rfl rfl nd rfl rfl ⟨rfl, by decide, .inl gH⟩ LamX.takes0 (fun W pn xe tk _ => ?suite) (fun a oe cls d pn hz hf => pss_one (ps_set (i := 1) nd rfl (Or.inl rfl) (pv 3))))
    (pss_cons (ps_if (pt_val (pe_callB call_isA (by rfl) zisi (by decide +kernel) (pa_cons (pv 1) (pa_cons (pe_glob (v := .ref (ga X.K "BadItem")) rfl gI rfl) pa_nil)))) (pss_one (ps_ret (pe_tupN (pa_cons pe_str (pa_cons (pe_xfld (pv 1)) pa_nil))))) pss_nil)
    (pss_cons (ps_if (pt_val (pe_callB call_isA (by rfl) zisi (by decide +kernel) (pa_cons (pv 1) (pa_cons (pe_glob (v := .ref (ga X.K "BadPlace")) rfl gP rfl) pa_nil)))) (pss_one (ps_ret (pe_tupN (pa_cons pe_str (pa_cons (pe_xfld (pv 1)) pa_nil))))) pss_nil)
    (pss_cons (ps_if (pt_val (pe_callB call_isA (by rfl) zisi (by decide +kernel) (pa_cons (pv 1) (pa_cons (pe_glob (v := .ref (ga X.K "Disordered")) rfl gD rfl) pa_nil)))) (pss_one (ps_ret (pe_tupN (pa_cons pe_str (pa_cons (pe_xfld (pv 1)) pa_nil))))) pss_nil)
    (pss_cons (ps_if (pt_val (pe_callB call_isA (by rfl) zisi (by decide +kernel) (pa_cons (pv 1) (pa_cons (pe_glob (v := .ref (ga X.K "TooMany")) rfl gM rfl) pa_nil)))) (pss_one (ps_ret (pe_tupN (pa_cons pe_str (pa_cons (pe_xfld (pv 1)) pa_nil))))) pss_nil)
    (pss_one (ps_ret (pe_ifExp (pt_cmpR op_isN (pv 1) pe_non (nomark _)) (pe_lstN (pa_cons (pv 2) pa_nil)) (pe_tupN (pa_cons pe_str (pa_cons pe_int pa_nil))))))))))))), ?_⟩
  case suite =>
    refine ⟨fun pins s' σ H' D I h' => ?_⟩
    obtain ⟨Ech, hW, h1, h2, h3⟩ := h'
    exact (pss_one (ps_set (i := 2) nd rfl (Or.inl rfl) (act W pn xe Ech _ _ tk hW))).run pins s' σ H' D I ⟨h1, h2, h3⟩
  · refine ⟨Eh X.K Q, ?_, rfl, hc, h _ _ (fun _ _ _ z => z) fun H1 hq => ?_⟩
    · rintro cls d σ' H' ⟨e, v, dd, he, rfl, rfl, hd, kq⟩ hl
      obtain ⟨w0, w1, w2, w3, rfl⟩ := four (show σ'.length = 4 from hl)
      refine ⟨ga X.K e.1, true, rfl, T.exm he, fun _ er her => ?_, fun z => nomatch z⟩
      have S1 := same_new (o := exT er (ga X.K e.1) (some dd)) her
      have hx : (upd H' er (exT er (ga X.K e.1) (some dd))) er = some (exT er (ga X.K e.1) (some dd)) := upd_same
      have hd2 := S1 _ _ hd
      have ty : TyA X.K (upd H' er (exT er (ga X.K e.1) (some dd))) (.ref er) (.ref (ga X.K e.1)) := .inr ⟨er, _, dd, _, rfl, rfl, .inr hx, .inr hd2, T.xc he, T.xo⟩
      have fin : ∀ (tp : Addr) (H3 : Hp), (upd H' er (exT er (ga X.K e.1) (some dd))) tp = none → Same (upd H' er (exT er (ga X.K e.1) (some dd))) H3 → H3 tp = some (.tup [.str (wordOf e.1), .int v]) → Q (.ref tp) H3 := fun tp H3 f3 s3 g3 => kq tp H3 (S1.free f3) (S1.trans s3) g3
      simp only [errs, List.mem_cons, List.not_mem_nil, or_false] at he
      have m0 : (("BadItem", 5, "part") : Str × Nat × Str) ∈ errs := by decide +kernel
      have m1 : (("BadPlace", 6, "at") : Str × Nat × Str) ∈ errs := by decide +kernel
      have m2 : (("Disordered", 7, "at") : Str × Nat × Str) ∈ errs := by decide +kernel
      have m3 : (("TooMany", 8, "most") : Str × Nat × Str) ∈ errs := by decide +kernel
      rcases he with rfl | rfl | rfl | rfl
      · refine ⟨_, rfl, _, rfl, .ref er, .ref (ga X.K "BadItem"), _, _, _, rfl, .own _, ty, T.kitT m0, _, rfl, ?_⟩
        exact iteT ⟨_, rfl, er, _, dd, _, _, rfl, .inr hx, T.xc m0, T.no m0, .inr hd2, rfl, sz1000 (by show 2 ≤ 1000; decide), fun tp H3 f3 s3 g3 => fin tp H3 f3 s3 g3⟩
      · refine ⟨_, rfl, _, rfl, .ref er, .ref (ga X.K "BadItem"), _, _, _, rfl, .own _, ty, T.kitF m1 m0 (by decide), _, rfl, ?_⟩
        refine iteF ⟨_, rfl, .ref er, .ref (ga X.K "BadPlace"), _, _, _, rfl, .own _, ty, T.kitT m1, _, rfl, ?_⟩
        exact iteT ⟨_, rfl, er, _, dd, _, _, rfl, .inr hx, T.xc m1, T.no m1, .inr hd2, rfl, sz1000 (by show 2 ≤ 1000; decide), fun tp H3 f3 s3 g3 => fin tp H3 f3 s3 g3⟩
      · refine ⟨_, rfl, _, rfl, .ref er, .ref (ga X.K "BadItem"), _, _, _, rfl, .own _, ty, T.kitF m2 m0 (by decide), _, rfl, ?_⟩
        refine iteF ⟨_, rfl, .ref er, .ref (ga X.K "BadPlace"), _, _, _, rfl, .own _, ty, T.kitF m2 m1 (by decide), _, rfl, ?_⟩
        refine iteF ⟨_, rfl, .ref er, .ref (ga X.K "Disordered"), _, _, _, rfl, .own _, ty, T.kitT m2, _, rfl, ?_⟩
        exact iteT ⟨_, rfl, er, _, dd, _, _, rfl, .inr hx, T.xc m2, T.no m2, .inr hd2, rfl, sz1000 (by show 2 ≤ 1000; decide), fun tp H3 f3 s3 g3 => fin tp H3 f3 s3 g3⟩
      · refine ⟨_, rfl, _, rfl, .ref er, .ref (ga X.K "BadItem"), _, _, _, rfl, .own _, ty, T.kitF m3 m0 (by decide), _, rfl, ?_⟩
        refine iteF ⟨_, rfl, .ref er, .ref (ga X.K "BadPlace"), _, _, _, rfl, .own _, ty, T.kitF m3 m1 (by decide), _, rfl, ?_⟩
        refine iteF ⟨_, rfl, .ref er, .ref (ga X.K "Disordered"), _, _, _, rfl, .own _, ty, T.kitF m3 m2 (by decide), _, rfl, ?_⟩
        refine iteF ⟨_, rfl, .ref er, .ref (ga X.K "TooMany"), _, _, _, rfl, .own _, ty, T.kitT m3, _, rfl, ?_⟩
        exact iteT ⟨_, rfl, er, _, dd, _, _, rfl, .inr hx, T.xc m3, T.no m3, .inr hd2, rfl, sz1000 (by show 2 ≤ 1000; decide), fun tp H3 f3 s3 g3 => fin tp H3 f3 s3 g3⟩
    · have kn := T.kind (t := "NoneType") (by decide)
      have k0 := kn.2 _ (show (("BadItem", 5, "part") : Str × Nat × Str) ∈ errs by decide +kernel)
      have k1 := kn.2 _ (show (("BadPlace", 6, "at") : Str × Nat × Str) ∈ errs by decide +kernel)
      have k2 := kn.2 _ (show (("Disordered", 7, "at") : Str × Nat × Str) ∈ errs by decide +kernel)
      have k3 := kn.2 _ (show (("TooMany", 8, "most") : Str × Nat × Str) ∈ errs by decide +kernel)
      refine ⟨_, rfl, .non, .ref (ga X.K "BadItem"), .type "NoneType", _, _, rfl, .own _, .inl (.base .non), k0, _, rfl, ?_⟩
      refine iteF ⟨_, rfl, .non, .ref (ga X.K "BadPlace"), .type "NoneType", _, _, rfl, .own _, .inl (.base .non), k1, _, rfl, ?_⟩
      refine iteF ⟨_, rfl, .non, .ref (ga X.K "Disordered"), .type "NoneType", _, _, rfl, .own _, .inl (.base .non), k2, _, rfl, ?_⟩
      refine iteF ⟨_, rfl, .non, .ref (ga X.K "TooMany"), .type "NoneType", _, _, rfl, .own _, .inl (.base .non), k3, _, rfl, ?_⟩
      refine iteF ⟨_, rfl, rfl, _, rfl, ?_⟩
      exact ⟨_, rfl, sz1000 (by show 1 ≤ 1000; decide), fun q H2 f2 m2 s2 g2 => hq q H2 f2 s2 g2⟩
end K10
/-! Tw: len of an object with its own __len__; a comprehension's rules with the written part named. -/
namespace Tw
open PySem PySem.Spec PyProof.Rows L2
section
variable {X : Cx} {CX : CXT} {k : Nat} {f C : Addr} {fd : FuncData} {ps : List Str} {sp : Sp} {E : XK}
/-- len(x) by x's own __len__ -/
def rLenOwn (C : Addr) (sp : Sp) (E : XK) : List V → Hp → VK → Prop := fun xs H Q => ∃ (a dx : Addr) (fs : List (Str × V)), xs = [.ref a] ∧ H a = some (.ins C dx fs) ∧ sp [.ref a] H (fun z H' => ∃ n : Nat, z = .int (n : Nat) ∧ n < 2 ^ 62 ∧ Q z H') E
theorem call_lenOwn (hs : PySem.W.findIn X.K (.ref C) "__len__" = some (some (.ref f))) (hf : PySem.W.isFn X.K (.ref f) = true) (F : FnOk X.prog X.w X.K X.mg X.base CX k f fd ps sp) (hr : Room (k + 1) X.A) (hb : Binds X.K fd ps []) (hx : Passes CX X E) : CallR X (.builtin "len") (rLenOwn C sp E) := by
  intro pins s σ H xs us Q I r h
  obtain ⟨a, dx, fs, rfl, ea, q⟩ := h
  obtain ⟨u1, rfl, r1⟩ := vals1 r
  cases (show u1 = Value.ref a from r1)
  obtain ⟨od, ox, J⟩ := inst_at I ea
  obtain ⟨m, hF⟩ := I.fr
  refine PySem.W.len_K hF I.ok.mod.kin J hs hf ?_
  refine wpAny_mono (run_in1 F hr hb hx I (.cons r1 .nil) q) (fun w s' z => ?_) fun _ _ x => x
  obtain ⟨z', H', I', rz, n, ez, hn, qz⟩ := z
  subst ez
  obtain ⟨t, rfl⟩ := rz
  exact ⟨⟨Int.natCast_nonneg n, by omega⟩, .int (n : Nat), H', I'.tok _, ⟨_, rfl⟩, qz⟩
end
end Tw
namespace K10
open PySem PySem.Spec PyProof.Rows L2 He Tw
theorem some_inj {α : Type} : ∀ {xs ys : List α}, xs.map some = ys.map some → xs = ys
  | [], [], _ => rfl
  | [], _ :: _, h => nomatch h
  | _ :: _, [], h => nomatch h
  | x :: xs, y :: ys, h => by
    injection h with h1 h2
    rw [Option.some.inj h1, some_inj h2]
/-- a row is made of these -/
theorem row_to {K : Fg} {H : Hp} {q x dx : Addr} {xs : List V} {ps : List (Int × Str)} {R : VK} {E : XK} (hx : H x = none) (hd : H dx = none) (hne : dx ≠ x) (S : Src K H q xs (ps.map some)) (up : Up ps ps.length) (few : ps.length ≤ 200)
    (k : ∀ (H' : Hp) (ys : List V), Same H H' → RowAt K H' x ys → Its K H' ys ps → R .non H') : spRow K [.ref x, .ref q] (upd (upd H dx (.own x)) x (.ins (ga K "Row") dx [])) R E := by
  refine ⟨x, q, dx, xs, ps.map some, rfl, upd_same, S.same (same_made hd hx hne), fun ps' e up' few' H' ys b r i => ?_, fun n f v bad => ?_⟩
  · have ep : ps = ps' := some_inj e
    subst ep
    exact k H' ys (same_but (same_made hd hx hne) b hx) r i
  · cases bad with
    | @item n ps' h1 h2 h3 =>
      rw [List.getElem?_map] at h3
      cases e : ps[n]? with
      | none =>
        rw [e] at h3
        cases h3
      | some p =>
        rw [e] at h3
        cases h3
    | @order m ps' a b h0 h1 h2 h3 h4 =>
      have ep : ps = ps' := some_inj h0
      subst ep
      have lt : m < ps.length := (List.getElem?_eq_some_iff.mp h1).1
      have := up m a b lt h1 h2
      omega
    | @many ps' h0 h1 h2 =>
      have ep : ps = ps' := some_inj h0
      subst ep
      omega
/-- values that stand for pairs, as a row is made of them -/
theorem vals_src {K : Fg} {H : Hp} {q : Addr} {xs : List V} {ps : List (Int × Str)} (hs : Seq K H q xs) (v : Vals' K H xs ps) (few : ps.length ≤ 900) : Src K H q xs (ps.map some) := by
  have l : xs.length = ps.length := Paired.length v
  refine ⟨hs, by omega, by rw [List.length_map, l], ?_⟩
  have go : ∀ {xs : List V} {ps : List (Int × Str)}, Vals' K H xs ps → ∀ (i : Nat) (x : V), xs[i]? = some x → ∃ o : Option (Int × Str), (ps.map some)[i]? = some o ∧ Vv K H x o := by
    intro xs ps v
    induction v with
    | nil => exact fun i x h => nomatch h
    | cons h r ih =>
      intro i x e
      cases i with
      | zero =>
        cases e
        exact ⟨_, rfl, h⟩
      | succ n => exact ih n x e
  exact go v
theorem its_src {K : Fg} {H : Hp} {q : Addr} {ys : List V} {ps : List (Int × Str)} (hs : Seq K H q ys) (v : Its K H ys ps) (few : ps.length ≤ 900) : Src K H q ys (ps.map some) := by
  refine vals_src hs ?_ few
  clear hs few
  induction v with
  | nil => exact .nil
  | cons h r ih =>
    obtain ⟨a, e, i⟩ := h
    subst e
    exact .cons (.item i) ih
abbrev DefsK (K : Fg) (fd : Nat → FuncData) : Prop := DefsA fn K fd
section
variable {P : Program} {w : World} {K : Fg} {mg : Str → Option Value} {base : Heap} {fd : Nat → FuncData}
theorem itm (D : DefsK K fd) (T : Txt K mg) : ∃ d2, Itm P w K mg base (fd 4) d2 := by
  have F : FnI K (ma K (ga K "Item") "__init__") (fd 4) := D 4 _ rfl
  have G : FnOk P w K mg base (L2.CX P w) 3 (ma K (ga K "Item") "__init__") (fd 4) ["self", "rank", "name"] (spItem K) := ok_item (fB := 0) F (D 16 _ rfl) (T.fn (x := "is_rank") (by decide +kernel)) (D 15 _ rfl) (T.fn (x := "is_number") (by decide +kernel)) (D 14 _ rfl) (T.fn (x := "is_lettered") (by decide +kernel)) (D 0 _ rfl) T
  obtain ⟨d1, r1, b1⟩ := FunD.binds1 (ps := ["self", "rank", "name"]) F 3 1 (fun z => nomatch z) rfl fun _ _ _ _ _ _ _ us its h1 h2 => match us, h1, its, h2 with
    | [_, _, _], _, [_], _ => ⟨_, rfl, rfl⟩
  obtain ⟨d2, r2, b2⟩ := FunD.binds1 (ps := ["self", "rank", "name"]) F 2 0 (fun z => nomatch z) rfl fun _ _ _ _ _ _ _ us its h1 h2 => match us, h1, its, h2 with
    | [_, _], _, [_], _ => ⟨_, rfl, rfl⟩
  cases (show Vals [] d1 from r1)
  exact ⟨d2, G, b1, r2, b2⟩
abbrev FRow (K : Fg) (fd : Nat → FuncData) : Prop := FunD K "__init__" "Row.__init__" (defArgs s_row) (defBody s_row) (defScope s_row) [.ref (nilAt K)] [] (ma K (ga K "Row") "__init__") (fd 6)
theorem bRow (D : DefsK K fd) : Binds K (fd 6) ["self", "items"] [] := by
  obtain ⟨d1, r1, b1⟩ := FunD.binds1 (ps := ["self", "items"]) (show FRow K fd from D 6 _ rfl) 2 1 (fun z => nomatch z) rfl fun _ _ _ _ _ _ _ us its h1 h2 => match us, h1, its, h2 with
    | [_, _], _, [_], _ => ⟨_, rfl, rfl⟩
  cases (show Vals [] d1 from r1)
  exact b1
theorem G_as (D : DefsK K fd) (T : Txt K mg) : FnOk P w K mg base (L2.CX P w) 5 (ga K "as_items") (fd 17) ["values"] (spAs K) := by
  obtain ⟨d2, I⟩ := itm (P := P) (w := w) (base := base) D T
  have W : Wlk P w K mg base (fd 7) := ⟨ok_iter (D 7 _ rfl) T, (show FnP K "__iter__" "Row.__iter__" s_iter (ma K (ga K "Row") "__iter__") (fd 7) from D 7 _ rfl).bindsN fun _ _ _ _ _ _ us hl => match us, hl with | [_], _ => rfl⟩
  exact ok_as (D 17 _ rfl) (D 16 _ rfl) (T.fn (x := "is_rank") (by decide +kernel)) (D 15 _ rfl) (T.fn (x := "is_number") (by decide +kernel)) (D 0 _ rfl) I W T
theorem G_row (D : DefsK K fd) (T : Txt K mg) : FnOk P w K mg base (L2.CX P w) 6 (ma K (ga K "Row") "__init__") (fd 6) ["self", "items"] (spRow K) :=
  ok_row (D 6 _ rfl) (D 17 _ rfl) (T.fn (x := "as_items") (by decide +kernel)) (G_as D T)
    (D 18 _ rfl) (T.fn (x := "need_row") (by decide +kernel)) (ok_need (D 18 _ rfl) (D 5 _ rfl) (D 2 _ rfl) (D 3 _ rfl) T) T
end
end K10
namespace Tw
/-- what two rows' items of one rank give by a sign -/
def ofRank {α : Type} (sign : PySem.Str) (xs ys : List α) : List α :=
  if sign = "+" then xs ++ ys else if sign = "|" then xs ++ ys.drop xs.length else if sign = "&" then xs.take ys.length else if sign = "-" then xs.drop ys.length else xs.drop ys.length ++ ys.drop xs.length
theorem ofRank_nil {α : Type} (sign : PySem.Str) : ofRank sign ([] : List α) [] = [] := by
  unfold ofRank
  simp
end Tw
namespace K10
open PySem PySem.Spec PyProof.Rows L2 He Tw
abbrev at_ (r : Int) (ps : List (Int × Str)) : List (Int × Str) := ps.filter fun q => decide (q.1 = r)
/-- the items of rank r -/
def blk : List V → List (Int × Str) → Int → List V
  | y :: ys, p :: ps, r => if p.1 = r then y :: blk ys ps r else blk ys ps r
  | _, _, _ => []
theorem its_blk {K : Fg} {H : Hp} (r : Int) : ∀ {ys : List V} {ps : List (Int × Str)}, Its K H ys ps → Its K H (blk ys ps r) (at_ r ps)
  | _, _, .nil => .nil
  | _, _, .cons (b := p) (l₂ := ps) h t => by
    unfold blk at_
    by_cases e : p.1 = r
    · rw [if_pos e, List.filter_cons_of_pos (p := fun q : Int × Str => decide (q.1 = r)) (decide_eq_true e)]
      exact .cons h (its_blk r t)
    · rw [if_neg e, List.filter_cons_of_neg (p := fun q : Int × Str => decide (q.1 = r)) (fun z => e (of_decide_eq_true z))]
      exact its_blk r t
theorem blk_snoc (r : Int) (y : V) (p : Int × Str) : ∀ {ys : List V} {ps : List (Int × Str)}, ys.length = ps.length → blk (ys ++ [y]) (ps ++ [p]) r = if p.1 = r then blk ys ps r ++ [y] else blk ys ps r
  | [], [], _ => by
    by_cases e : p.1 = r <;> simp [blk, e]
  | [], _ :: _, h => nomatch h
  | _ :: _, [], h => nomatch h
  | a :: ys, q :: ps, h => by
    have ih := blk_snoc r y p (Nat.succ.inj h)
    simp only [List.cons_append, blk, ih]
    by_cases e : q.1 = r <;> by_cases e2 : p.1 = r <;> simp [e, e2]
theorem blk_none {r : Int} : ∀ {ys : List V} {ps : List (Int × Str)}, r ∉ rk ps → blk ys ps r = []
  | [], _, _ => by simp [blk]
  | _ :: _, [], _ => by simp [blk]
  | y :: ys, p :: ps, h => by
    unfold rk at h
    rw [List.map_cons, List.mem_cons, not_or] at h
    unfold blk
    rw [if_neg (fun z => h.1 z.symm)]
    exact blk_none h.2
theorem blk_len (r : Int) : ∀ (ys : List V) (ps : List (Int × Str)), (blk ys ps r).length ≤ ys.length
  | [], _ => by simp [blk]
  | _ :: _, [] => by simp [blk]
  | y :: ys, p :: ps => by
    unfold blk
    have := blk_len r ys ps
    split
    · rw [List.length_cons, List.length_cons]; omega
    · rw [List.length_cons]; omega
/-- the ranks in the order in which they come first -/
def fsts (xs : List Int) : List Int := xs.foldl (fun acc r => if r ∈ acc then acc else acc ++ [r]) []
theorem mem_foldF {r : Int} : ∀ {xs acc : List Int}, r ∈ xs.foldl (fun acc r => if r ∈ acc then acc else acc ++ [r]) acc ↔ r ∈ acc ∨ r ∈ xs
  | [], acc => by simp
  | x :: xs, acc => by
    rw [List.foldl_cons, mem_foldF]
    by_cases h : x ∈ acc
    · rw [if_pos h, List.mem_cons]
      constructor
      · rintro (z | z)
        · exact .inl z
        · exact .inr (.inr z)
      · rintro (z | rfl | z)
        · exact .inl z
        · exact .inl h
        · exact .inr z
    · rw [if_neg h, List.mem_append, List.mem_singleton, List.mem_cons, or_assoc]
theorem mem_fsts {r : Int} {xs : List Int} : r ∈ fsts xs ↔ r ∈ xs := by
  unfold fsts
  rw [mem_foldF]
  simp
theorem fsts_rk {ps : List (Int × Str)} {p : Int × Str} : fsts (rk (ps ++ [p])) = if p.1 ∈ rk ps then fsts (rk ps) else fsts (rk ps) ++ [p.1] := by
  have e : rk (ps ++ [p]) = rk ps ++ [p.1] := by unfold rk; rw [List.map_append]; rfl
  rw [e]
  have : fsts (rk ps ++ [p.1]) = if p.1 ∈ fsts (rk ps) then fsts (rk ps) else fsts (rk ps) ++ [p.1] := by
    unfold fsts
    rw [List.foldl_append]
    rfl
  rw [this]
  by_cases h : p.1 ∈ rk ps
  · rw [if_pos h, if_pos (mem_fsts.mpr h)]
  · rw [if_neg h, if_neg fun z => h (mem_fsts.mp z)]
/-- the dict at d has for each rank a list of its own with the items -/
structure Grp (H0 H : Hp) (d : Addr) (kvs : List (Key × V)) (ys : List V) (ps : List (Int × Str)) : Prop where
  at_ : H d = some (.dK kvs)
  few : kvs.length ≤ ps.length
  there : ∀ r, r ∈ rk ps → ∃ l, valV kvs (Sum.inl r) = some (.ref l) ∧ H l = some (.lst (blk ys ps r)) ∧ H0 l = none
  not : ∀ r, r ∉ rk ps → valV kvs (Sum.inl r) = none
  inj : ∀ r s l, valV kvs (Sum.inl r) = some (.ref l) → valV kvs (Sum.inl s) = some (.ref l) → r = s
  keys : kvs.map Prod.fst = (fsts (rk ps)).map Sum.inl
def spBy (K : Fg) : Sp := fun vs H Q _ => ∃ (t : Addr) (ys : List V) (ps : List (Int × Str)), vs = [.ref t] ∧ SqT K H t ys ∧ Its K H ys ps ∧ ps.length ≤ 900 ∧ ∀ (d : Addr) (H' : Hp) (kvs : List (Key × V)), H d = none → Same H H' → Grp H H' d kvs ys ps → Q (.ref d) H'
abbrev s_by : Stmt := topS 21
abbrev N_by : List Str := ["items", "found", "item"]
theorem sc_by : FnScope N_by ["items"] (defScope s_by) := ⟨rfl, rfl, rfl, by decide +kernel, rfl, by decide +kernel, by decide +kernel⟩
theorem rk_snoc {ps : List (Int × Str)} {p : Int × Str} {r : Int} : r ∈ rk (ps ++ [p]) ↔ r ∈ rk ps ∨ r = p.1 := by
  unfold rk
  rw [List.map_append, List.mem_append]
  simp
section
variable {P : Program} {w : World} {K : Fg} {mg : Str → Option Value} {base : Heap} {fd : Nat → FuncData}
theorem ok_by {f : Addr} {fd : FuncData} (F : FnP K "by_rank" "by_rank" s_by f fd) (T : Txt K mg) : FnOk P w K mg base CX0 1 f fd ["items"] (spBy K) := by
  refine F.ok sc_by (fun vs H Q E h => ?_) (fun cdv A outer s H vs Q E hr h => ?_)
  · obtain ⟨t, ys, ps, rfl, _⟩ := h
    rfl
  · obtain ⟨t, ys, ps, rfl, ht, its, hn, k⟩ := h
    refine ⟨_, PSs.nox (pss_cons (ps_set (i := 1) sc_by.nd rfl (Or.inl rfl) pe_dnewN)
    (pss_cons (ps_for PassesOwn.never rfl (pi_tup (pv 0)) (pg_name (i := 2) sc_by.nd rfl (Or.inl rfl))
    (pss_one (ps_expr (pe_bm PySem.F.plainAttrs_list PySem.F.slot_list_append PySem.F.type_list_append mt_append (pe_dsetd (pv 1) (pe_fld (pv 2) rfl) (pe_lstN pa_nil) ⟨rfl, rfl, rfl, rfl⟩) (pa_cons (pv 2) pa_nil)))))
    (pss_one (ps_ret (pv 1))))), ?_⟩
    have ll := its_len its
    intro d H1 f1 m1 s1 g1
    dsimp only [gName]
    unfold tSeq
    refine ⟨_, rfl, t, rfl, ⟨_, sqT_same s1 ht⟩, for_tup (K := K) (a := t) (xs := ys) (fun i σ H' => ∃ v kvs, σ = [some (.ref t), some (.ref d), v] ∧ Same H H' ∧ Grp H H' d kvs (ys.take i) (ps.take i)) ⟨none, [], rfl, s1, ⟨g1, Nat.zero_le _, (fun r hr => nomatch hr), (fun _ _ => rfl), (fun r s l h => nomatch h), rfl⟩⟩ (fun i σ H' _ ⟨_, _, _, s', _⟩ => sqT_same s' ht) ?_ ?_⟩
    · rintro i x σ H2 hx ⟨v, kvs, rfl, s2, G⟩
      have hi : i < ys.length := (List.getElem?_eq_some_iff.mp hx).1
      have ep : ps[i]? = some ps[i] := List.getElem?_eq_getElem (by omega)
      obtain ⟨a, ea, ⟨dx, ha⟩⟩ := its_at its ep
      rw [hx] at ea
      cases ea
      have ha2 := s2 _ _ ha
      have ty : ys.take (i + 1) = ys.take i ++ [V.ref a] := by rw [List.take_add_one, hx]; rfl
      have tp : ps.take (i + 1) = ps.take i ++ [ps[i]] := by rw [List.take_add_one, ep]; rfl
      have lti : (ys.take i).length = (ps.take i).length := by rw [List.length_take, List.length_take, ll]
      have hsz : kvs.length < sizeLine := Nat.lt_of_le_of_lt G.few (Nat.lt_of_lt_of_le (show (ps.take i).length < 1000 by rw [List.length_take]; omega) (by decide))
      refine ⟨_, rfl, d, rfl, .inl ⟨kvs, .inl G.at_⟩, _, rfl, a, _, dx, _, .int ps[i].1, rfl, ha2, T.cls, T.na (by decide +kernel), rfl, sz1000 (by show 0 ≤ 1000; decide), fun l0 H3 f3 m3 s3 g3 => ⟨kvs, Sum.inl ps[i].1, s3 _ _ G.at_, rfl, hsz, fun v hv => ?_, fun hv => ?_⟩⟩
      · have hm : ps[i].1 ∈ rk (ps.take i) := Classical.byContradiction fun z => by
          rw [G.not _ z] at hv
          cases hv
        obtain ⟨l, e1, gl, nl⟩ := G.there _ hm
        rw [e1] at hv
        cases hv
        have gl3 := s3 _ _ gl
        have dl : d ≠ l := fun z => by
          have q := G.at_
          rw [z, gl] at q
          cases q
        refine ⟨.inl ⟨rfl, _, SqL.of gl3⟩, _, rfl, l, _, _, rfl, rfl, gl3, ?_, ?_⟩
        · exact Nat.lt_of_le_of_lt (blk_len _ _ _) (Nat.lt_of_lt_of_le (show (ys.take i).length < 1000 by rw [List.length_take]; omega) (by decide))
        · refine ⟨_, kvs, rfl, same_upd (s2.trans s3) nl, ⟨by rw [upd_ne dl]; exact s3 _ _ G.at_, by rw [tp, List.length_append]; have := G.few; omega, fun r hr => ?_, fun r hr => ?_, G.inj, by rw [tp, fsts_rk, if_pos hm]; exact G.keys⟩⟩
          · by_cases e : ps[i].1 = r
            · subst e
              exact ⟨l, e1, by rw [upd_same, ty, tp, blk_snoc _ _ _ lti, if_pos rfl], nl⟩
            · rw [tp] at hr
              rcases rk_snoc.mp hr with hr | hr
              · obtain ⟨l', q1, q2, q3⟩ := G.there r hr
                have n : l' ≠ l := fun z => e (G.inj _ _ l e1 (by rw [← z]; exact q1))
                exact ⟨l', q1, by rw [upd_ne n, ty, tp, blk_snoc _ _ _ lti, if_neg e]; exact s3 _ _ q2, q3⟩
              · exact absurd hr.symm e
          · rw [tp] at hr
            exact G.not r fun z => hr (rk_snoc.mpr (.inl z))
      · have hm : ps[i].1 ∉ rk (ps.take i) := fun z => by
          obtain ⟨l, e1, _⟩ := G.there _ z
          rw [hv] at e1
          cases e1
        have d0 : d ≠ l0 := ne_of_none G.at_ f3
        have g4 : (upd H3 d (.dK (putK kvs (Sum.inl ps[i].1) (V.ref l0)))) l0 = some (.lst []) := by
          rw [upd_ne d0.symm]
          exact g3
        have h0 : H l0 = none := by
          cases q : H l0 with
          | none => rfl
          | some o =>
            rw [s2 _ _ q] at f3
            cases f3
        refine ⟨.inl ⟨rfl, _, SqL.of g4⟩, _, rfl, l0, _, _, rfl, rfl, g4, by show 0 < sizeLine; decide, ?_⟩
        refine ⟨_, _, rfl, same_upd (same_upd (s2.trans s3) f1) h0, ⟨by rw [upd_ne d0]; exact upd_same, ?_, fun r hr => ?_, fun r hr => ?_, fun r s l q1 q2 => ?_, by rw [tp, fsts_rk, if_neg hm, putK_new _ (G.not _ hm), List.map_append, List.map_append, G.keys]; rfl⟩⟩
        · have := length_putK kvs (Sum.inl ps[i].1) (V.ref l0)
          have := G.few
          rw [tp, List.length_append, List.length_singleton]
          omega
        · rw [valV_put]
          by_cases e : ps[i].1 = r
          · subst e
            exact ⟨l0, if_pos rfl, by rw [upd_same, ty, tp, blk_snoc _ _ _ lti, if_pos rfl, blk_none hm], h0⟩
          · rw [tp] at hr
            rcases rk_snoc.mp hr with hr | hr
            · obtain ⟨l', q1, q2, q3⟩ := G.there r hr
              have n1 : l' ≠ l0 := ne_of_none q2 f3
              have n2 : l' ≠ d := fun z => by
                have q := G.at_
                rw [← z, q2] at q
                cases q
              exact ⟨l', by rw [if_neg (fun z => e (Sum.inl.inj z).symm)]; exact q1, by rw [upd_ne n1, upd_ne n2, ty, tp, blk_snoc _ _ _ lti, if_neg e]; exact s3 _ _ q2, q3⟩
            · exact absurd hr.symm e
        · rw [tp] at hr
          rw [valV_put, if_neg (fun z => hr (rk_snoc.mpr (.inr (Sum.inl.inj z))))]
          exact G.not r fun z => hr (rk_snoc.mpr (.inl z))
        · have no : ∀ t, valV kvs (Sum.inl t) ≠ some (.ref l0) := fun t z => by
            have ht : t ∈ rk (ps.take i) := Classical.byContradiction fun y => by
              rw [G.not _ y] at z
              cases z
            obtain ⟨l', w1, w2, _⟩ := G.there t ht
            rw [w1] at z
            cases z
            rw [f3] at w2
            cases w2
          rw [valV_put] at q1 q2
          by_cases e1 : (Sum.inl r : Key) = Sum.inl ps[i].1 <;> by_cases e2 : (Sum.inl s : Key) = Sum.inl ps[i].1
          · rw [Sum.inl.inj e1, Sum.inl.inj e2]
          · rw [if_pos e1] at q1
            rw [if_neg e2] at q2
            cases q1
            exact absurd q2 (no s)
          · rw [if_neg e1] at q1
            rw [if_pos e2] at q2
            cases q2
            exact absurd q1 (no r)
          · rw [if_neg e1] at q1
            rw [if_neg e2] at q2
            exact G.inj _ _ _ q1 q2
    · rintro σ H2 ⟨v, kvs, rfl, s2, G⟩
      rw [List.take_of_length_le (Nat.le_refl _), List.take_of_length_le (by omega)] at G
      exact ⟨_, rfl, k d H2 kvs f1 s2 G⟩
end
end K10
namespace Tw
open PySem PySem.Spec PyProof.Rows L2 He
/-- t + u, a tuple of both -/
def rCatU (K : Fg) : R2 := fun x y H Q => ∃ a b xs ys, x = .ref a ∧ y = .ref b ∧ SqT K H a xs ∧ SqT K H b ys ∧ xs.length + ys.length ≤ sizeLine ∧ ∀ (c : Addr) (H' : Hp), Same H H' → SqT K H' c (xs ++ ys) → Q (.ref c) H'
theorem op_catU {X : Cx} : OpR X (binaryOp .Add) (rCatU X.K) := by
  intro pins s σ H x y v u Q I rx ry h
  obtain ⟨a, b, xs, ys, e1, e2, ha, hb, hz, q⟩ := h
  have rf : Same H H := fun _ _ e => e
  refine op_catA pins s σ H x y v u Q I rx ry ⟨a, b, xs, ys, e1, e2, ha, hb, hz, fun z => ?_, fun _ z => ?_, fun _ _ p hp => q p _ (same_new hp) (SqT.of upd_same)⟩
  · subst z
    exact q b H rf hb
  · subst z
    refine q a H rf ?_
    rw [List.append_nil]
    exact ha
theorem paired_take {α β : Type} {F : α → β → Prop} : ∀ {xs : List α} {ys : List β} (n : Nat), Paired F xs ys → Paired F (xs.take n) (ys.take n)
  | _, _, 0, _ => by rw [List.take_zero, List.take_zero]; exact .nil
  | _, _, _ + 1, .nil => .nil
  | _, _, n + 1, .cons h t => .cons h (paired_take n t)
theorem paired_drop {α β : Type} {F : α → β → Prop} : ∀ {xs : List α} {ys : List β} (n : Nat), Paired F xs ys → Paired F (xs.drop n) (ys.drop n)
  | _, _, 0, h => h
  | _, _, _ + 1, .nil => .nil
  | _, _, n + 1, .cons _ t => paired_drop n t
theorem paired_app {α β : Type} {F : α → β → Prop} {zs : List α} {us : List β} (h : Paired F zs us) : ∀ {xs : List α} {ys : List β}, Paired F xs ys → Paired F (xs ++ zs) (ys ++ us)
  | _, _, .nil => h
  | _, _, .cons a t => .cons a (paired_app h t)
theorem paired_ofRank {α β : Type} {F : α → β → Prop} {xs zs : List α} {ys us : List β} (sign : Str) (h : Paired F xs ys) (g : Paired F zs us) : Paired F (ofRank sign xs zs) (ofRank sign ys us) := by
  have e1 : xs.length = ys.length := Paired.length h
  have e2 : zs.length = us.length := Paired.length g
  unfold ofRank
  rw [e1, e2]
  split
  · exact paired_app g h
  · split
    · exact paired_app (paired_drop _ g) h
    · split
      · exact paired_take _ h
      · split
        · exact paired_drop _ h
        · exact paired_app (paired_drop _ g) (paired_drop _ h)
theorem ofRank_len {α : Type} (sign : Str) (xs ys : List α) : (ofRank sign xs ys).length ≤ xs.length + ys.length := by
  unfold ofRank
  split
  · rw [List.length_append]
    exact Nat.le_refl _
  · split
    · rw [List.length_append, List.length_drop]; omega
    · split
      · rw [List.length_take]; omega
      · split
        · rw [List.length_drop]; omega
        · rw [List.length_append, List.length_drop, List.length_drop]; omega
end Tw
namespace K10
open PySem PySem.Spec PyProof.Rows L2 He Tw
theorem Grp.same {H0 H H' : Hp} {d : Addr} {kvs : List (Key × V)} {ys : List V} {ps : List (Int × Str)} (G : Grp H0 H d kvs ys ps) (e : Same H H') : Grp H0 H' d kvs ys ps :=
  ⟨e _ _ G.at_, G.few, fun r hr => by
    obtain ⟨l, h1, h2, h3⟩ := G.there r hr
    exact ⟨l, h1, e _ _ h2, h3⟩, G.not, G.inj, G.keys⟩
/-- what d.get(r, []) gives -/
theorem Grp.get {H0 H : Hp} {d e : Addr} {kvs : List (Key × V)} {ys : List V} {ps : List (Int × Str)} (G : Grp H0 H d kvs ys ps) (r : Int) (he : H e = some (.lst [])) : ∃ l, (valV kvs (Sum.inl r)).getD (.ref e) = V.ref l ∧ H l = some (.lst (blk ys ps r)) := by
  by_cases hr : r ∈ rk ps
  · obtain ⟨l, h1, h2, _⟩ := G.there r hr
    exact ⟨l, by rw [h1]; rfl, h2⟩
  · exact ⟨e, by rw [G.not r hr]; rfl, by rw [blk_none hr]; exact he⟩
def spOfRank : Sp := fun vs H Q _ => ∃ (sign : Str) (a b : Addr) (xs ys : List V), vs = [.str sign, .ref a, .ref b] ∧ H a = some (.lst xs) ∧ H b = some (.lst ys) ∧ xs.length ≤ 900 ∧ ys.length ≤ 900 ∧ ∀ (l : Addr) (H' : Hp), Same H H' → H' l = some (.lst (ofRank sign xs ys)) → Q (.ref l) H'
abbrev s_tor : Stmt := topS 23
abbrev N_tor : List Str := ["sign", "left", "right", "left_over", "right_over"]
theorem sc_tor : FnScope N_tor ["sign", "left", "right"] (defScope s_tor) := ⟨rfl, rfl, rfl, by decide +kernel, rfl, by decide +kernel, by decide +kernel⟩
section
variable {P : Program} {w : World} {K : Fg} {mg : Str → Option Value} {base : Heap} {fd : Nat → FuncData}
theorem ok_tor {f : Addr} {fd : FuncData} (F : FnP K "taken_of_rank" "taken_of_rank" s_tor f fd) (T : Txt K mg) : FnOk P w K mg base CX0 1 f fd ["sign", "left", "right"] spOfRank := by
  have zlen : mg "len" = none := T.bl (by decide +kernel)
  refine F.ok sc_tor (fun vs H Q E h => ?_) (fun cdv A outer s H vs Q E hr h => ?_)
  · obtain ⟨sign, a, b, xs, ys, rfl, _⟩ := h
    rfl
  · obtain ⟨sign, a, b, xs, ys, rfl, ha, hb, lx, ly, k⟩ := h
    refine ⟨_, PSs.nox (pss_cons (ps_set (i := 3) sc_tor.nd rfl (Or.inl rfl) (pe_slice sl_listN (pv 1) (po_some (pe_callB call_len (by rfl) zlen (by decide +kernel) (pa_cons (pv 2) pa_nil))) po_none))
    (pss_cons (ps_set (i := 4) sc_tor.nd rfl (Or.inl rfl) (pe_slice sl_listN (pv 2) (po_some (pe_callB call_len (by rfl) zlen (by decide +kernel) (pa_cons (pv 1) pa_nil))) po_none))
    (pss_cons (ps_if (pt_cmpR op_eq (pv 0) pe_str (nomark _)) (pss_one (ps_ret (pe_op op_catN (pv 1) (pv 2)))) pss_nil)
    (pss_cons (ps_if (pt_cmpR op_eq (pv 0) pe_str (nomark _)) (pss_one (ps_ret (pe_op op_catN (pv 1) (pv 4)))) pss_nil)
    (pss_cons (ps_if (pt_cmpR op_eq (pv 0) pe_str (nomark _)) (pss_one (ps_ret (pe_slice sl_listN (pv 1) po_none (po_some (pe_callB call_len (by rfl) zlen (by decide +kernel) (pa_cons (pv 2) pa_nil)))))) pss_nil)
    (pss_cons (ps_if (pt_cmpR op_eq (pv 0) pe_str (nomark _)) (pss_one (ps_ret (pv 3))) pss_nil)
    (pss_one (ps_ret (pe_op op_catN (pv 3) (pv 4)))))))))), ?_⟩
    refine ⟨_, rfl, _, rfl, _, _, rfl, .inl ⟨_, SqL.of hb, rfl⟩, _, rfl, a, xs, rfl, SqL.of ha, fun l1 H1 f1 s1 g1 => ?_⟩
    rw [cutDrop] at g1
    refine ⟨_, rfl, _, rfl, _, _, rfl, .inl ⟨_, SqL.of (s1 _ _ ha), rfl⟩, _, rfl, b, ys, rfl, SqL.of (s1 _ _ hb), fun l2 H2 f2 s2 g2 => ?_⟩
    rw [cutDrop] at g2
    have s12 := s1.trans s2
    have ha2 := s12 _ _ ha
    have hb2 := s12 _ _ hb
    have g12 := s2 _ _ g1
    have ld1 : (xs.drop ys.length).length ≤ 900 := by rw [List.length_drop]; omega
    have ld2 : (ys.drop xs.length).length ≤ 900 := by rw [List.length_drop]; omega
    have lim : ∀ {n m : Nat}, n ≤ 900 → m ≤ 900 → n + m ≤ sizeLine := fun {n m} h1 h2 => Nat.le_trans (show n + m ≤ 1800 by omega) (by decide)
    refine ⟨_, rfl, rfl, _, rfl, ?_⟩
    refine ite2 (fun hz => ?_) (fun h1 => ?_)
    · have e : sign = "+" := by rw [dec_s] at hz; exact of_decide_eq_true hz
      refine ⟨_, rfl, _, rfl, a, b, _, _, rfl, rfl, ha2, hb2, lim lx ly, fun l3 H3 f3 m3 s3 g3 => k l3 H3 (s12.trans s3) ?_⟩
      rw [g3, e]
      rfl
    have n1 : sign ≠ "+" := fun e => h1 (by rw [e]; rfl)
    refine ⟨_, rfl, rfl, _, rfl, ?_⟩
    refine ite2 (fun hz => ?_) (fun h2 => ?_)
    · have e : sign = "|" := by rw [dec_s] at hz; exact of_decide_eq_true hz
      refine ⟨_, rfl, _, rfl, a, l2, _, _, rfl, rfl, ha2, g2, lim lx ld2, fun l3 H3 f3 m3 s3 g3 => k l3 H3 (s12.trans s3) ?_⟩
      rw [g3, e]
      rfl
    have n2 : sign ≠ "|" := fun e => h2 (by rw [e]; rfl)
    refine ⟨_, rfl, rfl, _, rfl, ?_⟩
    refine ite2 (fun hz => ?_) (fun h3 => ?_)
    · have e : sign = "&" := by rw [dec_s] at hz; exact of_decide_eq_true hz
      refine ⟨_, rfl, _, rfl, _, _, rfl, .inl ⟨_, SqL.of hb2, rfl⟩, _, rfl, a, xs, rfl, SqL.of ha2, fun l3 H3 f3 s3 g3 => k l3 H3 (s12.trans s3) ?_⟩
      rw [cutTake] at g3
      rw [g3, e]
      rfl
    have n3 : sign ≠ "&" := fun e => h3 (by rw [e]; rfl)
    refine ⟨_, rfl, rfl, _, rfl, ?_⟩
    refine ite2 (fun hz => ?_) (fun h4 => ?_)
    · have e : sign = "-" := by rw [dec_s] at hz; exact of_decide_eq_true hz
      refine ⟨_, rfl, k l1 H2 s12 ?_⟩
      rw [g12, e]
      rfl
    have n4 : sign ≠ "-" := fun e => h4 (by rw [e]; rfl)
    refine ⟨_, rfl, _, rfl, l1, l2, _, _, rfl, rfl, g12, g2, lim ld1 ld2, fun l3 H3 f3 m3 s3 g3 => k l3 H3 (s12.trans s3) ?_⟩
    rw [g3]
    unfold ofRank
    rw [if_neg n1, if_neg n2, if_neg n3, if_neg n4]
end
end K10
/-! Tw: sorted(a set of ints), however many there are. -/
namespace Tw
open PySem PySem.Spec PyProof.Rows L2 He
def rSrtSet (w : World) : List V → Hp → VK → Prop := fun vs H Q => ∃ (b : Addr) (M : Int → Bool) (c : Nat), vs = [V.ref b] ∧ H b = some (SetO w b M c) ∧ c ≤ 1000 ∧
  ∀ (zs : List Int) (l : Addr), zs.Pairwise (· < ·) → (∀ i : Int, i ∈ zs ↔ M i = true) → zs.length = c → H l = none → Q (.ref l) (upd H l (.lst (zs.map V.int)))
theorem cr_srtSet {X : Cx} (calm : X.calm = true) : CallR X (.builtin "sorted") (rSrtSet X.w) := fun pins s σ H vs us Q I r h => by
  obtain ⟨b, M, c, rfl, hb, few, q⟩ := h
  obtain ⟨so, es, ep, tb, hso, exa, dat, good, nod, mem, room, fit, sz, ris, led⟩ := setO_get I hb
  rw [Vals.ref1 r]
  refine Calls.call_function_entry kind_sorted plain_sorted entry_sorted (args_sorted1 _) ?_
  unfold Builtin.«sorted»
  refine wpAny_bind (m := checkCount "sorted" 1 1 _) (wpAny_pure (wpAny_bind (collect_set (A := X.A.in1) (I.ok.hd calm) ⟨so, hso, exa.1, dat⟩ fit room ris led fun s2 ms keep size gens os perm => ?_)))
  have len : ms.length = c := (perm.length_eq.trans ((List.length_map _).trans Array.length_toList)).trans sz
  have inz : IntsAre ms (ms.map Builtin.Re.reRawOf) := ints_of ms fun v hv => by
    obtain ⟨e, he, z⟩ := List.mem_map.mp (perm.mem_iff.mp hv)
    obtain ⟨i, t, g, _⟩ := good e he
    exact ⟨i, t, z ▸ g⟩
  have keys : (ms.map Builtin.Re.reRawOf).Perm (es.toList.map keyOf) := (List.map_map (f := Prod.snd) (g := Builtin.Re.reRawOf) (l := es.toList)) ▸ perm.map Builtin.Re.reRawOf
  have small : ms.length ≤ sizeLine := by
    rw [len, sizeLine_eq]
    omega
  refine wpAny_bind (wpAny_newList ?_ small)
  have hl : (s2.heap.push (seqObj "list" ms.toArray 0)).get? s2.heap.objs.size = some (seqObj "list" ms.toArray 0) := Heap.get?_push_size _ rfl
  refine wpAny_bind (wpAny_holding (wpAny_call_entry slot_list_sort ⟨_, hl, rfl⟩ entry_list_sort (list_sort_treeAny hl inz small fun out zs i1 p1 o1 => ⟨_, rfl, ?_⟩) (args_list_sort _)))
  obtain ⟨n, hn⟩ := sortedHeap_at (vs := ms) (out := out) hl
  have pz := p1.trans keys
  have lz : zs.length = c := (pz.length_eq.trans ((List.length_map _).trans Array.length_toList)).trans sz
  have np : H s2.heap.objs.size = none := I.hok.fresh size
  have kp : ∀ d u, s.heap.get? d = some u → (sortedHeap (s2.heap.push (seqObj "list" ms.toArray 0)) s2.heap.objs.size ms out).get? d = some u := fun d u e => by
    have e1 := keep d u e
    have lt := Heap.lt_size e1
    rw [sortedHeap_old (Nat.ne_of_lt lt) (by rw [size_push']; exact Nat.lt_succ_of_lt lt)]
    exact Heap.get?_push_of_some _ e1
  have fits : (zs.map V.int).length ≤ sizeLine := by
    rw [List.length_map, lz, ← len]
    exact small
  have J : ∀ u : Shared, u.gens = s.gens → u.os = s.os → u.heap = sortedHeap (s2.heap.push (seqObj "list" ms.toArray 0)) s2.heap.objs.size ms out → Inv X pins σ (upd H s2.heap.objs.size (.lst (zs.map V.int))) u := fun u e1 e2 e3 => by
    obtain ⟨uh, ug, ud, ut, uo⟩ := u
    subst e1 e2 e3
    exact I.call (ch := []) (Un.laid kp size np) (I.hok.laid kp size ⟨fits, out.toList, n, vals_of_ints i1, hn⟩) I.bare (fun _ z => nomatch z)
  exact wpAny_pure ⟨_, rfl, ⟨.ref s2.heap.objs.size, _, J _ gens os rfl, rfl, q zs _ (lt_of_le_nodup zs o1 (pz.nodup_iff.mpr nod)) (fun i => by rw [pz.mem_iff, mem i]) lz np⟩⟩
end Tw
namespace K10
open PySem PySem.Spec PyProof.Rows L2 He Tw
/-- what two rows give by a sign: ns their ranks, ascending -/
def takenL (sign : Str) (ps qs : List (Int × Str)) (ns : List Int) : List (Int × Str) := (ns.map fun r => ofRank sign (at_ r ps) (at_ r qs)).flatten
theorem takenL_snoc (sign : Str) (ps qs : List (Int × Str)) (ns : List Int) (r : Int) : takenL sign ps qs (ns ++ [r]) = takenL sign ps qs ns ++ ofRank sign (at_ r ps) (at_ r qs) := by
  unfold takenL
  rw [List.map_append, List.flatten_append]
  simp
/-- the ranks of both, strictly ascending -/
structure Rks (ps qs : List (Int × Str)) (ns : List Int) : Prop where
  asc : ns.Pairwise (· < ·)
  mem : ∀ k, k ∈ ns ↔ k ∈ rk ps ∨ k ∈ rk qs
/-- fewer than 900 ranks -/
def Few (ps qs : List (Int × Str)) : Prop := ∀ rs : List Int, rs.Nodup → (∀ r ∈ rs, r ∈ rk ps ∨ r ∈ rk qs) → rs.length < 900
theorem nodup_le : ∀ {rs cs : List Int}, rs.Nodup → (∀ r ∈ rs, r ∈ cs) → rs.length ≤ cs.length
  | [], _, _, _ => Nat.zero_le _
  | r :: rs, cs, nd, h => by
    obtain ⟨n1, n2⟩ := List.nodup_cons.mp nd
    have hr := h r List.mem_cons_self
    have ih := nodup_le (rs := rs) (cs := cs.erase r) n2 fun x hx => (List.mem_erase_of_ne (fun e => n1 (by rw [← e]; exact hx))).mpr (h x (List.mem_cons_of_mem _ hx))
    have := List.length_erase_of_mem hr
    have := List.length_pos_of_mem hr
    rw [List.length_cons]
    omega
theorem few_len {ps qs : List (Int × Str)} (h : ps.length + qs.length < 900) : Few ps qs := fun rs nd hr => by
  have := nodup_le (cs := rk ps ++ rk qs) nd fun r hx => List.mem_append.mpr (hr r hx)
  rw [List.length_append] at this
  unfold rk at this
  rw [List.length_map, List.length_map] at this
  omega
def spTaken (K : Fg) : Sp := fun vs H Q _ => ∃ (sign : Str) (a b : Addr) (ys zs : List V) (ps qs : List (Int × Str)), vs = [.str sign, .ref a, .ref b] ∧ SqT K H a ys ∧ Its K H ys ps ∧ ps.length ≤ 400 ∧ SqT K H b zs ∧ Its K H zs qs ∧ qs.length ≤ 400 ∧ Few ps qs ∧
  ∀ (l : Addr) (H' : Hp) (us : List V) (ns : List Int), Same H H' → H l = none → H' l = some (.lst us) → Rks ps qs ns → Its K H' us (takenL sign ps qs ns) → Q (.ref l) H'
abbrev s_taken : Stmt := topS 22
abbrev N_taken : List Str := ["sign", "left", "right", "of_left", "of_right", "found", "rank", "item"]
theorem sc_taken : FnScope N_taken ["sign", "left", "right"] (defScope s_taken) := ⟨rfl, rfl, rfl, by decide +kernel, rfl, by decide +kernel, by decide +kernel⟩
theorem rk_app {ps qs : List (Int × Str)} {k : Int} : k ∈ rk (ps ++ qs) ↔ k ∈ rk ps ∨ k ∈ rk qs := by
  unfold rk
  rw [List.map_append, List.mem_append]
section
variable {P : Program} {w : World} {K : Fg} {mg : Str → Option Value} {base : Heap} {fd : Nat → FuncData}
theorem ok_taken {f fB fR : Addr} {fd fdB fdR : FuncData} (F : FnP K "taken" "taken" s_taken f fd) (FB : FnP K "by_rank" "by_rank" s_by fB fdB) (gB : mg "by_rank" = some (.ref fB)) (FR : FnP K "taken_of_rank" "taken_of_rank" s_tor fR fdR) (gR : mg "taken_of_rank" = some (.ref fR)) (T : Txt K mg) :
    FnOk P w K mg base CX0 2 f fd ["sign", "left", "right"] (spTaken K) := by
  have zsorted : mg "sorted" = none := T.bl (by decide +kernel)
  have GB : FnOk P w K mg base CX0 1 fB fdB ["items"] (spBy K) := ok_by FB T
  have GR : FnOk P w K mg base CX0 1 fR fdR ["sign", "left", "right"] spOfRank := ok_tor FR T
  have bB : Binds K fdB ["items"] [] := FB.bindsN fun _ _ _ _ _ _ us hl => match us, hl with | [_], _ => rfl
  have bR : Binds K fdR ["sign", "left", "right"] [] := FR.bindsN fun _ _ _ _ _ _ us hl => match us, hl with | [_, _, _], _ => rfl
  refine F.ok sc_taken (fun vs H Q E h => ?_) (fun cdv A outer s H vs Q E hr h => ?_)
  · obtain ⟨sign, a, b, ys, zs, ps, qs, rfl, _⟩ := h
    rfl
  · obtain ⟨sign, a, b, ys, zs, ps, qs, rfl, ha, ia, la, hb, ib, lb, few, k⟩ := h
    refine ⟨_, PSs.nox (pss_cons (ps_set (i := 3) sc_taken.nd rfl (Or.inl rfl) (pe_call GB (hr.mono (by decide)) rfl gB FB.kp bB .nil pass0 (pa_cons (pv 1) pa_nil)))
    (pss_cons (ps_set (i := 4) sc_taken.nd rfl (Or.inl rfl) (pe_call GB (hr.mono (by decide)) rfl gB FB.kp bB .nil pass0 (pa_cons (pv 2) pa_nil)))
    (pss_cons (ps_set (i := 5) sc_taken.nd rfl (Or.inl rfl) (pe_lstN pa_nil))
    (pss_cons (ps_for PassesOwn.never rfl (pi_list (pe_callB (cr_srtSet rfl) (by rfl) zsorted (by decide +kernel) (pa_cons (pe_setc (own := [("item", 7)]) (g := gName 7) (tt := tYes) newInts addInts rfl sc_taken.nd (pi_tup (pe_op op_catU (pv 1) (pv 2))) (blkOk_by (own := [("item", 7)]) (N := N_taken) (sc := defScope s_taken) (by decide +kernel)) (fun _ _ _ _ _ => pg_name (i := 7) sc_taken.nd rfl (Or.inl rfl)) (fun _ _ _ _ _ => pts_nil) (fun _ _ _ _ _ => fldK K (pv 7))) pa_nil))) (pg_name (i := 6) sc_taken.nd rfl (Or.inl rfl))
    (pss_one (ps_expr (pe_bm PySem.F.plainAttrs_list PySem.F.slot_list_extend PySem.F.type_list_extend mt_extend (pv 5) (pa_cons (pe_call GR (hr.mono (by decide)) rfl gR FR.kp bR .nil pass0 (pa_cons (pv 0) (pa_cons (pe_dget2 (hu_of hr) (pv 3) (pv 6) (pe_lstN pa_nil) ⟨rfl, rfl, rfl, rfl⟩) (pa_cons (pe_dget2 (hu_of hr) (pv 4) (pv 6) (pe_lstN pa_nil) ⟨rfl, rfl, rfl, rfl⟩) pa_nil)))) pa_nil)))))
    (pss_one (ps_ret (pv 5))))))), ?_⟩
    have lla := its_len ia
    have llb := its_len ib
    refine ⟨_, rfl, a, ys, ps, rfl, ha, ia, by omega, fun d1 H1 kvs1 f1 s1 G1 => ?_⟩
    refine ⟨_, rfl, b, zs, qs, rfl, sqT_same s1 hb, ib.same s1, by omega, fun d2 H2 kvs2 f2 s2 G2 => ?_⟩
    have s02 := s1.trans s2
    refine ⟨sz1000 (by show 0 ≤ 1000; decide), fun l H3 f3 m3 s3 g3 => ?_⟩
    have s03 := s02.trans s3
    dsimp only [gName]
    unfold tSeq
    have lys : ys.length + zs.length ≤ sizeLine := Nat.le_trans (show ys.length + zs.length ≤ 1000 by omega) (by decide)
    refine ⟨_, rfl, _, rfl, a, b, ys, zs, rfl, rfl, sqT_same s03 ha, sqT_same s03 hb, lys, fun c4 H4 s4 g4 => ⟨c4, rfl, ⟨_, g4⟩, fun D hD => ?_⟩⟩
    have s04 := s03.trans s4
    have iab : Its K H4 (ys ++ zs) (ps ++ qs) := paired_app (ib.same s04) (ia.same s04)
    have lab : (ps ++ qs).length = ps.length + qs.length := List.length_append
    have hl0 : H l = none := by
      cases q : H l with
      | none => rfl
      | some o =>
        rw [s02 _ _ q] at f3
        cases f3
    refine setc_tup (o0 := fun D => SetO w D (fun _ => false) 0) (ad := adInt w) (K := K) (a := c4) (xs := ys ++ zs) (fun i H' => Same H4 H' ∧ ∃ (S : Int → Bool) (rs : List Int), H' D = some (SetO w D S rs.length) ∧ rs.Nodup ∧ (∀ k, k ∈ rs ↔ S k = true) ∧ (∀ k, k ∈ rs ↔ k ∈ rk ((ps ++ qs).take i)) ∧ rs.length ≤ i)
      ⟨same_new hD, fun _ => false, [], (show (upd H4 D (SetO w D (fun _ => false) 0)) D = some (SetO w D (fun _ => false) ([] : List Int).length) from upd_same), .nil, (fun _ => ⟨(fun z => nomatch z), (fun z => nomatch z)⟩), (fun _ => ⟨(fun z => nomatch z), (fun z => nomatch z)⟩), Nat.le_refl _⟩ (fun i H' _ q => sqT_same q.1 g4) ?_ ?_
    · rintro i x H5 hx ⟨s5, S, rs, gD, nd, m1, m2, ln⟩
      have hi : i < (ys ++ zs).length := (List.getElem?_eq_some_iff.mp hx).1
      have li : (ys ++ zs).length = (ps ++ qs).length := Paired.length iab
      have ep : (ps ++ qs)[i]? = some (ps ++ qs)[i] := List.getElem?_eq_getElem (by omega)
      obtain ⟨c, ec, ⟨dx, hc⟩⟩ := its_at iab ep
      rw [hx] at ec
      cases ec
      have lt : rs.length + 1 < scanBound := Nat.lt_of_lt_of_le (show rs.length + 1 < 1000 by omega) (by decide)
      refine ⟨rfl, _, rfl, c, _, dx, _, .int (ps ++ qs)[i].1, rfl, s5 _ _ hc, T.cls, T.na (by decide +kernel), rfl, _, S, _, rfl, gD, lt, same_upd s5 hD, fun j => S j || decide (j = (ps ++ qs)[i].1), if S (ps ++ qs)[i].1 = true then rs else rs ++ [(ps ++ qs)[i].1], ?_, ?_, fun j => ?_, fun j => ?_, ?_⟩
      · rw [upd_same]
        split
        · rfl
        · exact congrArg (fun n => some (SetO w D (fun j => S j || decide (j = (ps ++ qs)[i].1)) n)) (List.length_append (as := rs) (bs := [(ps ++ qs)[i].1])).symm
      · split
        · exact nd
        · rename_i h
          refine List.nodup_append.mpr ⟨nd, List.pairwise_singleton _ _, fun a ha b hb e => h ?_⟩
          rw [List.mem_singleton.mp hb] at e
          exact (m1 _).mp (by rw [← e]; exact ha)
      · split
        · rename_i h
          rw [m1 j]
          by_cases e : j = (ps ++ qs)[i].1
          · subst e
            simp [h]
          · simp [e]
        · rw [List.mem_append, List.mem_singleton, m1 j, Bool.or_eq_true, decide_eq_true_eq]
      · rw [List.take_add_one, ep]
        show _ ↔ j ∈ rk ((ps ++ qs).take i ++ [(ps ++ qs)[i]])
        rw [rk_snoc, ← m2 j]
        split
        · rename_i h
          refine ⟨.inl, fun z => z.elim id fun e => ?_⟩
          rw [e]
          exact (m1 _).mpr h
        · rw [List.mem_append, List.mem_singleton]
      · split
        · omega
        · rw [List.length_append]
          show rs.length + 1 ≤ _
          omega
    · rintro H5 ⟨s5, S, rs, gD, nd, m1, m2, ln⟩
      have li : (ys ++ zs).length = (ps ++ qs).length := Paired.length iab
      rw [li, List.take_of_length_le (Nat.le_refl _)] at m2
      have mm : ∀ k, k ∈ rs ↔ k ∈ rk ps ∨ k ∈ rk qs := fun k => (m2 k).trans rk_app
      refine ⟨D, S, rs.length, rfl, gD, Nat.le_of_lt (Nat.lt_trans (few rs nd fun r hr => (mm r).mp hr) (by decide)), fun ns p asc mem len hp => ?_⟩
      have R : Rks ps qs ns := ⟨asc, fun k => by rw [mem k, ← m1 k, mm k]⟩
      have s6 := same_new (o := .lst (ns.map V.int)) hp
      have g6 : (upd H5 p (.lst (ns.map V.int))) p = some (.lst (ns.map V.int)) := upd_same
      generalize upd H5 p (.lst (ns.map V.int)) = H6 at s6 g6 ⊢
      have s46 := s5.trans s6
      have s26 : Same H2 H6 := s3.trans (s4.trans s46)
      have gl6 : H6 l = some (.lst []) := (s4.trans s46) _ _ g3
      have hpl : p ≠ l := fun z => by
        rw [z, (s4.trans s5) _ _ g3] at hp
        cases hp
      have nsl : ns.length < 900 := few ns (asc.imp fun h => Int.ne_of_lt h) fun r hr => (R.mem r).mp hr
      refine ⟨p, rfl, ⟨_, SqL.of g6⟩, for_list (K := K) (a := p) (xs := ns.map V.int) (fun i σ H' => ∃ v6 : Option V, σ = [some (.str sign), some (.ref a), some (.ref b), some (.ref d1), some (.ref d2), some (.ref l), v6, none] ∧ Same H2 H' ∧ H' p = some (.lst (ns.map V.int)) ∧ ∃ us, H' l = some (.lst us) ∧ us.length ≤ i * 1000 ∧ Its K H' us (takenL sign ps qs (ns.take i)))
        ⟨none, rfl, s26, g6, [], gl6, Nat.zero_le _, .nil⟩ (fun i σ H' _ ⟨_, _, _, gp, _⟩ => SqL.of gp) ?_ ?_⟩
      · rintro i x σ H7 hx ⟨v6, rfl, s7, gp7, us, gl7, lus, ius⟩
        rw [List.getElem?_map] at hx
        cases er : ns[i]? with
        | none =>
          rw [er] at hx
          cases hx
        | some r =>
          rw [er] at hx
          cases hx
          have hi : i < ns.length := (List.getElem?_eq_some_iff.mp er).1
          have G1' := (G1.same s2).same s7
          have G2' := G2.same s7
          refine ⟨_, rfl, .inl ⟨rfl, _, SqL.of gl7⟩, _, rfl, _, rfl, d1, rfl, .inl ⟨kvs1, .inl G1'.at_⟩, _, rfl, sz1000 (by show 0 ≤ 1000; decide), fun e1 H8 f8 m8 s8 g8 => ⟨_, DGet.k (k := Sum.inl r) (s8 _ _ G1'.at_), ?_⟩⟩
          obtain ⟨l1, x1, gx1⟩ := (G1'.same s8).get r g8
          rw [x1]
          refine ⟨_, rfl, d2, rfl, .inl ⟨kvs2, .inl (s8 _ _ G2'.at_)⟩, _, rfl, sz1000 (by show 0 ≤ 1000; decide), fun e2 H9 f9 m9 s9 g9 => ⟨_, DGet.k (k := Sum.inl r) ((s8.trans s9) _ _ G2'.at_), ?_⟩⟩
          obtain ⟨l2, x2, gx2⟩ := (G2'.same (s8.trans s9)).get r g9
          rw [x2]
          have b1 := blk_len r ys ps
          have b2 := blk_len r zs qs
          refine ⟨sign, l1, l2, _, _, rfl, s9 _ _ gx1, gx2, by omega, by omega, fun lr H10 s10 g10 => ?_⟩
          have s710 := s8.trans (s9.trans s10)
          have lo := ofRank_len sign (blk ys ps r) (blk zs qs r)
          refine ⟨l, lr, us, _, rfl, rfl, s710 _ _ gl7, g10, Nat.le_trans (show us.length + (ofRank sign (blk ys ps r) (blk zs qs r)).length ≤ 1000000 by omega) (by decide), ?_⟩
          have hln : H2 l = none := f3
          refine ⟨_, rfl, same_upd (s7.trans s710) hln, by rw [upd_ne hpl]; exact s710 _ _ gp7, _, upd_same, ?_, ?_⟩
          · rw [List.length_append]
            omega
          · have tk : ns.take (i + 1) = ns.take i ++ [r] := by rw [List.take_add_one, er]; rfl
            rw [tk, takenL_snoc]
            have i10 : Its K H10 (us ++ ofRank sign (blk ys ps r) (blk zs qs r)) (takenL sign ps qs (ns.take i) ++ ofRank sign (at_ r ps) (at_ r qs)) :=
              paired_app (paired_ofRank sign (its_blk r ((ia.same s02).same (s7.trans s710))) (its_blk r ((ib.same s02).same (s7.trans s710)))) (ius.same s710)
            exact its_upd (s710 _ _ gl7) i10
      · rintro σ H7 ⟨v6, rfl, s7, gp7, us, gl7, lus, ius⟩
        rw [List.take_of_length_le (by rw [List.length_map]; exact Nat.le_refl _)] at ius
        exact ⟨_, rfl, k l H7 us ns (s02.trans s7) hl0 gl7 R ius⟩
end
end K10
namespace K10
open PySem PySem.Spec PyProof.Rows L2 He Tw
/-! ### the mathematics of takenL -/
theorem sum_ind (x : Int) : ∀ {ns : List Int}, ns.Nodup → (ns.map fun r => if x = r then 1 else 0).sum ≤ 1
  | [], _ => by simp
  | r :: ns, nd => by
    obtain ⟨n1, n2⟩ := List.nodup_cons.mp nd
    have ih := sum_ind x n2
    rw [List.map_cons, List.sum_cons]
    by_cases e : x = r
    · rw [if_pos e]
      have z : (ns.map fun r => if x = r then 1 else 0).sum = 0 := by
        have : ∀ {ms : List Int}, r ∉ ms → (ms.map fun r => if x = r then 1 else 0).sum = 0 := by
          intro ms
          induction ms with
          | nil => intro _; rfl
          | cons m ms ih2 =>
            intro h
            rw [List.mem_cons, not_or] at h
            rw [List.map_cons, List.sum_cons, if_neg (fun y => h.1 (by rw [← e, y])), ih2 h.2]
        exact this n1
      omega
    · rw [if_neg e]
      omega
theorem sum_add (f g : Int → Nat) : ∀ ns : List Int, (ns.map fun r => f r + g r).sum = (ns.map f).sum + (ns.map g).sum
  | [] => rfl
  | r :: ns => by
    have ih := sum_add f g ns
    simp only [List.map_cons, List.sum_cons] at ih ⊢
    omega
theorem sum_at {ns : List Int} (nd : ns.Nodup) : ∀ ps : List (Int × Str), (ns.map fun r => (at_ r ps).length).sum ≤ ps.length
  | [] => by
    have : ∀ ms : List Int, (ms.map fun r => (at_ r ([] : List (Int × Str))).length).sum = 0 := by
      intro ms
      induction ms with
      | nil => rfl
      | cons m ms ih => rw [List.map_cons, List.sum_cons, ih]; rfl
    rw [this]
    exact Nat.zero_le _
  | p :: ps => by
    have ih := sum_at nd ps
    have h1 := sum_ind p.1 nd
    have e : ∀ r, (at_ r (p :: ps)).length = (if p.1 = r then 1 else 0) + (at_ r ps).length := fun r => by
      unfold at_
      by_cases e : p.1 = r
      · rw [if_pos e, List.filter_cons_of_pos (p := fun q : Int × Str => decide (q.1 = r)) (decide_eq_true e), List.length_cons]
        omega
      · rw [if_neg e, List.filter_cons_of_neg (p := fun q : Int × Str => decide (q.1 = r)) (fun z => e (of_decide_eq_true z))]
        omega
    have e2 : (ns.map fun r => (at_ r (p :: ps)).length) = ns.map fun r => (if p.1 = r then 1 else 0) + (at_ r ps).length := List.map_congr_left fun r _ => e r
    rw [e2, sum_add, List.length_cons]
    omega
theorem asc_nodup {ns : List Int} (h : ns.Pairwise (· < ·)) : ns.Nodup := h.imp fun h => Int.ne_of_lt h
theorem takenL_len {sign : Str} {ps qs : List (Int × Str)} {ns : List Int} (R : Rks ps qs ns) : (takenL sign ps qs ns).length ≤ ps.length + qs.length := by
  have h1 := sum_at (asc_nodup R.asc) ps
  have h2 := sum_at (asc_nodup R.asc) qs
  have : ∀ ms : List Int, (takenL sign ps qs ms).length ≤ (ms.map fun r => (at_ r ps).length).sum + (ms.map fun r => (at_ r qs).length).sum := by
    intro ms
    induction ms with
    | nil => exact Nat.zero_le _
    | cons m ms ih =>
      have e : takenL sign ps qs (m :: ms) = ofRank sign (at_ m ps) (at_ m qs) ++ takenL sign ps qs ms := rfl
      have := ofRank_len sign (at_ m ps) (at_ m qs)
      rw [e, List.length_append, List.map_cons, List.map_cons, List.sum_cons, List.sum_cons]
      omega
  have := this ns
  omega
theorem ofRank_mem {α : Type} {sign : Str} {xs ys : List α} {x : α} (h : x ∈ ofRank sign xs ys) : x ∈ xs ∨ x ∈ ys := by
  unfold ofRank at h
  split at h
  · exact List.mem_append.mp h
  · split at h
    · exact (List.mem_append.mp h).imp_right List.mem_of_mem_drop
    · split at h
      · exact .inl (List.mem_of_mem_take h)
      · split at h
        · exact .inl (List.mem_of_mem_drop h)
        · exact (List.mem_append.mp h).imp List.mem_of_mem_drop List.mem_of_mem_drop
theorem ofRank_at {sign : Str} {ps qs : List (Int × Str)} {r : Int} {q : Int × Str} (h : q ∈ ofRank sign (at_ r ps) (at_ r qs)) : q.1 = r ∧ (q ∈ ps ∨ q ∈ qs) := by
  rcases ofRank_mem h with h | h
  · obtain ⟨h1, h2⟩ := List.mem_filter.mp h
    exact ⟨of_decide_eq_true h2, .inl h1⟩
  · obtain ⟨h1, h2⟩ := List.mem_filter.mp h
    exact ⟨of_decide_eq_true h2, .inr h1⟩
abbrev Asc (ps : List (Int × Str)) : Prop := ps.Pairwise fun a b => a.1 ≤ b.1
theorem takenL_asc {sign : Str} {ps qs : List (Int × Str)} {ns : List Int} (R : ns.Pairwise (· < ·)) : Asc (takenL sign ps qs ns) := by
  unfold takenL Asc
  refine List.pairwise_flatten.mpr ⟨fun l hl => ?_, ?_⟩
  · obtain ⟨r, _, rfl⟩ := List.mem_map.mp hl
    exact List.Pairwise.imp_of_mem (R := fun _ _ => True) (fun ha hb _ => by rw [(ofRank_at ha).1, (ofRank_at hb).1]; exact Int.le_refl _) (List.pairwise_of_forall (fun _ _ => trivial))
  · refine List.pairwise_map.mpr (R.imp fun h x hx y hy => ?_)
    rw [(ofRank_at hx).1, (ofRank_at hy).1]
    omega
theorem asc_up {ps : List (Int × Str)} (h : Asc ps) : Up ps ps.length := fun m a b hm ha hb => by
  obtain ⟨h1, e1⟩ := List.getElem?_eq_some_iff.mp ha
  obtain ⟨h2, e2⟩ := List.getElem?_eq_some_iff.mp hb
  rw [← e1, ← e2]
  exact List.pairwise_iff_getElem.mp h m (m + 1) h1 h2 (by omega)
theorem takenL_mem {sign : Str} {ps qs : List (Int × Str)} {ns : List Int} {q : Int × Str} (h : q ∈ takenL sign ps qs ns) : q ∈ ps ∨ q ∈ qs := by
  obtain ⟨l, hl, hq⟩ := List.mem_flatten.mp h
  obtain ⟨r, _, rfl⟩ := List.mem_map.mp hl
  exact (ofRank_at hq).2
/-- a row made of these, or too long -/
theorem row_or {K : Fg} {H : Hp} {q x dx : Addr} {xs : List V} {ps : List (Int × Str)} {R : VK} {E : XK} (hx : H x = none) (hd : H dx = none) (hne : dx ≠ x) (S : Src K H q xs (ps.map some)) (up : Up ps ps.length)
    (k : ps.length ≤ 200 → ∀ (H' : Hp) (ys : List V), Same H H' → RowAt K H' x ys → Its K H' ys ps → R .non H')
    (kb : 200 < ps.length → ∀ (d : Addr) (H' : Hp), Same H H' → H' d = some (.xd [("most", .int 200)]) → E (.ref (ga K "TooMany")) (some d) H') : spRow K [.ref x, .ref q] (upd (upd H dx (.own x)) x (.ins (ga K "Row") dx [])) R E := by
  have sm := same_made (o := .own x) (u := .ins (ga K "Row") dx []) hd hx hne
  refine ⟨x, q, dx, xs, ps.map some, rfl, upd_same, S.same sm, fun ps' e up' few' H' ys b r i => ?_, fun n f v bad d H' s g => ?_⟩
  · have ep := some_inj e
    subst ep
    exact k few' H' ys (same_but sm b hx) r i
  · cases bad with
    | @item n ps' h1 h2 h3 =>
      rw [List.getElem?_map] at h3
      cases e : ps[n]? with
      | none =>
        rw [e] at h3
        cases h3
      | some p =>
        rw [e] at h3
        cases h3
    | @order m ps' a b h0 h1 h2 h3 h4 =>
      have ep := some_inj h0
      subst ep
      have := up m a b (List.getElem?_eq_some_iff.mp h1).1 h1 h2
      omega
    | @many ps' h0 h1 h2 =>
      have ep := some_inj h0
      subst ep
      exact kb (by omega) d H' (sm.trans s) g
end K10
namespace K10
open PySem PySem.Spec PyProof.Rows L2 He Tw
/-- the row of what two operands give by a sign -/
def spJoined (K : Fg) : Sp := fun vs H Q E => ∃ (sign : Str) (x y : Addr) (xs ys : List V) (os1 os2 : List (Option (Int × Str))), vs = [.str sign, .ref x, .ref y] ∧ Src K H x xs os1 ∧ Src K H y ys os2 ∧
  (∀ (ps qs : List (Int × Str)), os1 = ps.map some → Up ps ps.length → ps.length ≤ 200 → os2 = qs.map some → Up qs qs.length → qs.length ≤ 200 → Few ps qs ∧ ∀ ns, Rks ps qs ns →
    ((takenL sign ps qs ns).length ≤ 200 → ∀ (a : Addr) (H' : Hp) (us : List V), H a = none → Same H H' → RowAt K H' a us → Its K H' us (takenL sign ps qs ns) → Q (.ref a) H') ∧
    (200 < (takenL sign ps qs ns).length → ∀ (d : Addr) (H' : Hp), Same H H' → H' d = some (.xd [("most", .int 200)]) → E (.ref (ga K "TooMany")) (some d) H')) ∧
  (∀ (z f : Str) (v : Int), Bad os1 z f v → ∀ (d : Addr) (H' : Hp), Same H H' → H' d = some (.xd [(f, .int v)]) → E (.ref (ga K z)) (some d) H') ∧
  (∀ (z f : Str) (v : Int), Bad os2 z f v → ∀ (d : Addr) (H' : Hp), Same H H' → H' d = some (.xd [(f, .int v)]) → E (.ref (ga K z)) (some d) H')
abbrev s_joined : Stmt := topS 28
abbrev N_joined : List Str := ["sign", "left", "right"]
theorem sc_joined : FnScope N_joined ["sign", "left", "right"] (defScope s_joined) := ⟨rfl, rfl, rfl, by decide +kernel, rfl, by decide +kernel, by decide +kernel⟩
theorem sub_made {H H' : Hp} {x dx : Addr} {o u : HO} (hx : H x = none) (hd : H dx = none) (hne : dx ≠ x) (b : But x (upd (upd H dx o) x u) H') : Same H H' := same_but (same_made (o := o) (u := u) hd hx hne) b hx
section
variable {P : Program} {w : World} {K : Fg} {mg : Str → Option Value} {base : Heap} {fd : Nat → FuncData}
theorem G_taken (D : DefsK K fd) (T : Txt K mg) : FnOk P w K mg base CX0 2 (ga K "taken") (fd 20) ["sign", "left", "right"] (spTaken K) :=
  ok_taken (D 20 _ rfl) (D 19 _ rfl) (T.fn (x := "by_rank") (by decide +kernel)) (D 21 _ rfl) (T.fn (x := "taken_of_rank") (by decide +kernel)) T
theorem ok_joined (D : DefsK K fd) (T : Txt K mg) : FnOk P w K mg base (L2.CX P w) 8 (ga K "joined") (fd 22) ["sign", "left", "right"] (spJoined K) := by
  have gR : mg "Row" = some (.ref (ga K "Row")) := T.cl (by decide +kernel)
  have gT := T.fn (x := "taken") (by decide +kernel)
  have GR : FnOk P w K mg base (L2.CX P w) 6 (ma K (ga K "Row") "__init__") (fd 6) ["self", "items"] (spRow K) := G_row D T
  have GT : FnOk P w K mg base CX0 2 (ga K "taken") (fd 20) ["sign", "left", "right"] (spTaken K) := G_taken D T
  have FT : FnP K "taken" "taken" s_taken (ga K "taken") (fd 20) := D 20 _ rfl
  have bT : Binds K (fd 20) ["sign", "left", "right"] [] := FT.bindsN fun _ _ _ _ _ _ us hl => match us, hl with | [_, _, _], _ => rfl
  have F : FnP K "joined" "joined" s_joined (ga K "joined") (fd 22) := D 22 _ rfl
  refine F.ok sc_joined (fun vs H Q E h => ?_) (fun cdv A outer s H vs Q E hr h => ?_)
  · obtain ⟨sign, x, y, xs, ys, os1, os2, rfl, _⟩ := h
    rfl
  · obtain ⟨sign, x, y, xs, ys, os1, os2, rfl, S1, S2, kg, kb1, kb2⟩ := h
    refine ⟨_, pss_one (ps_ret (pe_make (E := E) T.mkR GR (hr.mono (by decide)) rfl gR (bRow D) .nil (passes_call (takes_of rfl rfl rfl rfl) (fun _ _ _ _ h => h)) (pa_cons (pe_call GT (hr.mono (by decide)) rfl gT FT.kp bT .nil pass0 (pa_cons (pv 0)
      (pa_cons (pe_fld (pe_make (E := E) T.mkR GR (hr.mono (by decide)) rfl gR (bRow D) .nil (passes_call (takes_of rfl rfl rfl rfl) (fun _ _ _ _ h => h)) (pa_cons (pv 1) pa_nil)) rfl)
      (pa_cons (pe_fld (pe_make (E := E) T.mkR GR (hr.mono (by decide)) rfl gR (bRow D) .nil (passes_call (takes_of rfl rfl rfl rfl) (fun _ _ _ _ h => h)) (pa_cons (pv 2) pa_nil)) rfl) pa_nil)))) pa_nil))), ?_⟩
    refine ⟨_, rfl, _, rfl, fun x1 dx1 hx1 hd1 hne1 => ?_⟩
    refine ⟨x1, x, dx1, xs, os1, rfl, upd_same, S1.same (same_made hd1 hx1 hne1), fun ps e1 up1 few1 H1 us1 b1 r1 i1 => ?_, fun z f v bad d H' s' g' => kb1 z f v bad d H' ((same_made hd1 hx1 hne1).trans s') g'⟩
    have s1 := sub_made hx1 hd1 hne1 b1
    obtain ⟨dr1, t1, hr1, ht1⟩ := id r1
    refine ⟨rfl, x1, _, dr1, _, _, rfl, hr1, T.clsR, T.naR, rfl, ?_⟩
    refine ⟨_, rfl, fun x2 dx2 hx2 hd2 hne2 => ?_⟩
    refine ⟨x2, y, dx2, ys, os2, rfl, upd_same, S2.same (s1.trans (same_made hd2 hx2 hne2)), fun qs e2 up2 few2 H2 us2 b2 r2 i2 => ?_, fun z f v bad d H' s' g' => kb2 z f v bad d H' (s1.trans ((same_made hd2 hx2 hne2).trans s')) g'⟩
    have s2 := sub_made hx2 hd2 hne2 b2
    obtain ⟨dr2, t2, hr2, ht2⟩ := id r2
    obtain ⟨few, kk⟩ := kg ps qs e1 up1 few1 e2 up2 few2
    refine ⟨rfl, x2, _, dr2, _, _, rfl, hr2, T.clsR, T.naR, rfl, ?_⟩
    refine ⟨sign, t1, t2, us1, us2, ps, qs, rfl, SqT.of (s2 _ _ ht1), i1.same s2, by omega, SqT.of ht2, i2, by omega, few, fun l H3 us ns s3 f3 g3 R i3 => ?_⟩
    obtain ⟨kA, kB⟩ := kk ns R
    have s03 := s1.trans (s2.trans s3)
    have ln := takenL_len (sign := sign) R
    refine fun x3 dx3 hx3 hd3 hne3 => row_or hx3 hd3 hne3 (its_src (.inl (SqL.of g3)) i3 (by omega)) (asc_up (takenL_asc R.asc)) (fun few3 H4 zs s4 r4 i4 => ⟨rfl, ?_⟩) (fun big d H4 s4 g4 => kB big d H4 (s03.trans s4) g4)
    refine kA few3 x3 H4 zs ?_ (s03.trans s4) r4 i4
    cases q : H x3 with
    | none => rfl
    | some o =>
      rw [s03 _ _ q] at hx3
      cases hx3
end
end K10
namespace K10
open PySem PySem.Spec PyProof.Rows L2 He Tw
theorem pe_no {X : Cx} {e : Expr} : PE X e (fun _ _ _ => False) := ⟨fun _ _ _ _ _ _ h => h.elim⟩
/-- a value that the operators take -/
inductive Opd (K : Fg) (H : Hp) (y : Addr) : Value → Prop where
  | row {dx : Addr} {fs : List (Str × V)} (h : H y = some (.ins (ga K "Row") dx fs)) : Opd K H y (.ref (ga K "Row"))
  | lst {xs : List V} (h : H y = some (.lst xs)) : Opd K H y (.type "list")
  | tup {xs : List V} (h : H y = some (.tup xs)) : Opd K H y (.type "tuple")
section
variable {K : Fg} {mg : Str → Option Value}
theorem Opd.same {H H' : Hp} {y : Addr} {t : Value} (e : Same H H') : Opd K H y t → Opd K H' y t
  | .row h => .row (e _ _ h)
  | .lst h => .lst (e _ _ h)
  | .tup h => .tup (e _ _ h)
theorem Opd.ty (T : Txt K mg) {H : Hp} {y : Addr} {t : Value} (h : Opd K H y t) : TyX K H (.ref y) t := by
  cases h with
  | row h => exact .base (.ins h T.clsR (T.ob (by decide +kernel)).2 T.xo.hn T.xo.ht (T.ob (by decide +kernel)).1)
  | lst h => exact .base (.lst h)
  | tup h => exact .base (.tup h)
theorem Opd.kit (T : Txt K mg) {H : Hp} {y : Addr} {t : Value} (h : Opd K H y t) : PySem.W.kitAny K t [.ref (ga K "Row"), .type "list", .type "tuple"] = some true := by
  have z : PySem.W.kitOne K (.type "tuple") (.type "list") = some false := rfl
  have z1 : PySem.W.kitOne K (.type "list") (.type "list") = some true := rfl
  have z2 : PySem.W.kitOne K (.type "tuple") (.type "tuple") = some true := rfl
  have z3 := T.kitR (t := "list") (by decide +kernel)
  have z4 := T.kitR (t := "tuple") (by decide +kernel)
  have z5 := T.kitRR
  cases h with
  | row h => simp only [PySem.W.kitAny, z5]
  | lst h => simp only [PySem.W.kitAny, z3, z1]
  | tup h => simp only [PySem.W.kitAny, z4, z, z2]
end
/-- row op= y -/
def spIn (K : Fg) (sign : Str) : Sp := fun vs H Q E => ∃ (a y : Addr) (us0 xs : List V) (ps : List (Int × Str)) (os : List (Option (Int × Str))) (t : Value), vs = [.ref a, .ref y] ∧ RowAt K H a us0 ∧ Its K H us0 ps ∧ Up ps ps.length ∧ ps.length ≤ 200 ∧ Opd K H y t ∧ Src K H y xs os ∧
  (∀ qs, os = qs.map some → Up qs qs.length → qs.length ≤ 200 → Few ps qs ∧ ∀ ns, Rks ps qs ns →
    ((takenL sign ps qs ns).length ≤ 200 → ∀ (H' : Hp) (us : List V), But a H H' → RowAt K H' a us → Its K H' us (takenL sign ps qs ns) → Q (.ref a) H') ∧
    (200 < (takenL sign ps qs ns).length → ∀ (d : Addr) (H' : Hp), Same H H' → H' d = some (.xd [("most", .int 200)]) → E (.ref (ga K "TooMany")) (some d) H')) ∧
  (∀ (z f : Str) (v : Int), Bad os z f v → ∀ (d : Addr) (H' : Hp), Same H H' → H' d = some (.xd [(f, .int v)]) → E (.ref (ga K z)) (some d) H')
theorem row_seq {K : Fg} {H : Hp} {a : Addr} {us : List V} (h : RowAt K H a us) : Seq K H a us := .inr (.inr h)
theorem bad_up {ps : List (Int × Str)} (up : Up ps ps.length) (few : ps.length ≤ 200) {z f : Str} {v : Int} (bad : Bad (ps.map some) z f v) : False := by
  cases bad with
  | @item n ps' h1 h2 h3 =>
    rw [List.getElem?_map] at h3
    cases e : ps[n]? with
    | none =>
      rw [e] at h3
      cases h3
    | some p =>
      rw [e] at h3
      cases h3
  | @order m ps' a b h0 h1 h2 h3 h4 =>
    have ep := some_inj h0
    subst ep
    have := up m a b (List.getElem?_eq_some_iff.mp h1).1 h1 h2
    omega
  | @many ps' h0 h1 h2 =>
    have ep := some_inj h0
    subst ep
    omega
theorem its_put1 {K : Fg} {H : Hp} {a dx t : Addr} {fs : List (Str × V)} {o : HO} (g : H a = some (.ins (ga K "Row") dx [("state", .ref t)])) {ys : List V} {ps : List (Int × Str)} (h : Its K H ys ps) : Its K (upd H a o) ys ps :=
  its_put (fun dx i z e => by
    rw [g] at e
    exact nomatch (HO.ins.inj (Option.some.inj e)).2.2) h
abbrev N_in : List Str := ["self", "other"]
section
variable {P : Program} {w : World} {K : Fg} {mg : Str → Option Value} {base : Heap} {fd : Nat → FuncData}
abbrev s_iadd : Stmt := inClass (topS 27) 17
theorem sc_iadd : FnScope N_in ["self", "other"] (defScope s_iadd) := ⟨rfl, rfl, rfl, by decide +kernel, rfl, by decide +kernel, by decide +kernel⟩
theorem ok_iadd (D : DefsK K fd) (T : Txt K mg) : FnOk P w K mg base (L2.CX P w) 9 (ma K (ga K "Row") "__iadd__") (fd 9) ["self", "other"] (spIn K "+") := by
  have zisi : mg "isinstance" = none := T.bl (by decide +kernel)
  have zlist : mg "list" = none := T.bl (by decide +kernel)
  have ztup : mg "tuple" = none := T.bl (by decide +kernel)
  have gR : mg "Row" = some (.ref (ga K "Row")) := T.cl (by decide +kernel)
  have gJ := T.fn (x := "joined") (by decide +kernel)
  have FJ : FnP K "joined" "joined" s_joined (ga K "joined") (fd 22) := D 22 _ rfl
  have GJ : FnOk P w K mg base (L2.CX P w) 8 (ga K "joined") (fd 22) ["sign", "left", "right"] (spJoined K) := ok_joined D T
  have bJ : Binds K (fd 22) ["sign", "left", "right"] [] := FJ.bindsN fun _ _ _ _ _ _ us hl => match us, hl with | [_, _, _], _ => rfl
  have F : FnP K "__iadd__" "Row.__iadd__" s_iadd (ma K (ga K "Row") "__iadd__") (fd 9) := D 9 _ rfl
  refine F.ok sc_iadd (fun vs H Q E h => ?_) (fun cdv A outer s H vs Q E hr h => ?_)
  · obtain ⟨a, y, us0, xs, ps, os, t, rfl, _⟩ := h
    rfl
  · obtain ⟨a, y, us0, xs, ps, os, t, rfl, ra, ia, up, few, op, S, kg, kb⟩ := h
    refine ⟨_, (pss_cons (ps_if (pt_not (pt_val (pe_callB call_isAT (by rfl) zisi (by decide +kernel) (pa_cons (pv 1) (pa_cons (pe_tupN (pa_cons (pe_glob (v := .ref (ga K "Row")) rfl gR rfl) (pa_cons (pe_bltn (v := .ty "list") (by rfl) zlist (by decide +kernel) rfl) (pa_cons (pe_bltn (v := .ty "tuple") (by rfl) ztup (by decide +kernel) rfl) pa_nil)))) pa_nil))))) (pss_one (ps_ret pe_no)) pss_nil)
    (pss_cons (ps_fld (pv 0) (pe_fld (pe_call (E := E) GJ (hr.mono (by decide)) rfl gJ FJ.kp bJ .nil (passes_call (takes_of rfl rfl rfl rfl) (fun _ _ _ _ h => h)) (pa_cons pe_str (pa_cons (pv 0) (pa_cons (pv 1) pa_nil)))) rfl) rfl)
    (pss_one (ps_ret (pv 0))))), ?_⟩
    obtain ⟨dx, ta, ha, hta⟩ := id ra
    refine ⟨_, rfl, sz1000 (by show 3 ≤ 1000; decide), fun tp H1 f1 s1 g1 => ?_⟩
    refine ⟨.ref y, tp, _, t, [.ref (ga K "Row"), .type "list", .type "tuple"], true, rfl, g1, .cons (.own _) (.cons (.ty _) (.cons (.ty _) .nil)), .inl ((op.same s1).ty T), op.kit T, _, rfl, ?_⟩
    refine iteF ?_
    have la := its_len ia
    refine ⟨_, rfl, _, rfl, "+", a, y, us0, xs, ps.map some, os, rfl, (its_src (row_seq ra) ia (by omega)).same s1, S.same s1, fun ps' qs e1 up1 few1 e2 up2 few2 => ?_, fun z f v bad => (bad_up up few bad).elim, fun z f v bad d H' s' g' => kb z f v bad d H' (s1.trans s') g'⟩
    have ep := some_inj e1
    subst ep
    obtain ⟨k1, k2⟩ := kg qs e2 up2 few2
    refine ⟨k1, fun ns R => ⟨fun few3 x H2 us n2 s2 r2 i2 => ?_, fun big d H2 s2 g2 => (k2 ns R).2 big d H2 (s1.trans s2) g2⟩⟩
    obtain ⟨dr, tr, hr2, htr⟩ := r2
    have s12 := s1.trans s2
    have ha2 := s12 _ _ ha
    refine ⟨x, _, dr, _, _, rfl, hr2, T.clsR, T.naR, rfl, ?_⟩
    refine ⟨_, rfl, a, _, dx, _, rfl, ha2, T.clsR, T.naR, (by show 1 < 1000; decide), ?_⟩
    have nt : tr ≠ a := fun z => by
      rw [z, ha2] at htr
      cases htr
    refine ⟨_, rfl, (k2 ns R).1 few3 _ us ((But.of s12).trans But.upd) ⟨dx, tr, upd_same, by rw [upd_ne nt]; exact htr⟩ (its_put1 (fs := []) ha2 i2)⟩
abbrev s_ior : Stmt := inClass (topS 27) 20
theorem sc_ior : FnScope N_in ["self", "other"] (defScope s_ior) := ⟨rfl, rfl, rfl, by decide +kernel, rfl, by decide +kernel, by decide +kernel⟩
theorem ok_ior (D : DefsK K fd) (T : Txt K mg) : FnOk P w K mg base (L2.CX P w) 9 (ma K (ga K "Row") "__ior__") (fd 10) ["self", "other"] (spIn K "|") := by
  have zisi : mg "isinstance" = none := T.bl (by decide +kernel)
  have zlist : mg "list" = none := T.bl (by decide +kernel)
  have ztup : mg "tuple" = none := T.bl (by decide +kernel)
  have gR : mg "Row" = some (.ref (ga K "Row")) := T.cl (by decide +kernel)
  have gJ := T.fn (x := "joined") (by decide +kernel)
  have FJ : FnP K "joined" "joined" s_joined (ga K "joined") (fd 22) := D 22 _ rfl
  have GJ : FnOk P w K mg base (L2.CX P w) 8 (ga K "joined") (fd 22) ["sign", "left", "right"] (spJoined K) := ok_joined D T
  have bJ : Binds K (fd 22) ["sign", "left", "right"] [] := FJ.bindsN fun _ _ _ _ _ _ us hl => match us, hl with | [_, _, _], _ => rfl
  have F : FnP K "__ior__" "Row.__ior__" s_ior (ma K (ga K "Row") "__ior__") (fd 10) := D 10 _ rfl
  refine F.ok sc_ior (fun vs H Q E h => ?_) (fun cdv A outer s H vs Q E hr h => ?_)
  · obtain ⟨a, y, us0, xs, ps, os, t, rfl, _⟩ := h
    rfl
  · obtain ⟨a, y, us0, xs, ps, os, t, rfl, ra, ia, up, few, op, S, kg, kb⟩ := h
    refine ⟨_, (pss_cons (ps_if (pt_not (pt_val (pe_callB call_isAT (by rfl) zisi (by decide +kernel) (pa_cons (pv 1) (pa_cons (pe_tupN (pa_cons (pe_glob (v := .ref (ga K "Row")) rfl gR rfl) (pa_cons (pe_bltn (v := .ty "list") (by rfl) zlist (by decide +kernel) rfl) (pa_cons (pe_bltn (v := .ty "tuple") (by rfl) ztup (by decide +kernel) rfl) pa_nil)))) pa_nil))))) (pss_one (ps_ret pe_no)) pss_nil)
    (pss_cons (ps_fld (pv 0) (pe_fld (pe_call (E := E) GJ (hr.mono (by decide)) rfl gJ FJ.kp bJ .nil (passes_call (takes_of rfl rfl rfl rfl) (fun _ _ _ _ h => h)) (pa_cons pe_str (pa_cons (pv 0) (pa_cons (pv 1) pa_nil)))) rfl) rfl)
    (pss_one (ps_ret (pv 0))))), ?_⟩
    obtain ⟨dx, ta, ha, hta⟩ := id ra
    refine ⟨_, rfl, sz1000 (by show 3 ≤ 1000; decide), fun tp H1 f1 s1 g1 => ?_⟩
    refine ⟨.ref y, tp, _, t, [.ref (ga K "Row"), .type "list", .type "tuple"], true, rfl, g1, .cons (.own _) (.cons (.ty _) (.cons (.ty _) .nil)), .inl ((op.same s1).ty T), op.kit T, _, rfl, ?_⟩
    refine iteF ?_
    have la := its_len ia
    refine ⟨_, rfl, _, rfl, "|", a, y, us0, xs, ps.map some, os, rfl, (its_src (row_seq ra) ia (by omega)).same s1, S.same s1, fun ps' qs e1 up1 few1 e2 up2 few2 => ?_, fun z f v bad => (bad_up up few bad).elim, fun z f v bad d H' s' g' => kb z f v bad d H' (s1.trans s') g'⟩
    have ep := some_inj e1
    subst ep
    obtain ⟨k1, k2⟩ := kg qs e2 up2 few2
    refine ⟨k1, fun ns R => ⟨fun few3 x H2 us n2 s2 r2 i2 => ?_, fun big d H2 s2 g2 => (k2 ns R).2 big d H2 (s1.trans s2) g2⟩⟩
    obtain ⟨dr, tr, hr2, htr⟩ := r2
    have s12 := s1.trans s2
    have ha2 := s12 _ _ ha
    refine ⟨x, _, dr, _, _, rfl, hr2, T.clsR, T.naR, rfl, ?_⟩
    refine ⟨_, rfl, a, _, dx, _, rfl, ha2, T.clsR, T.naR, (by show 1 < 1000; decide), ?_⟩
    have nt : tr ≠ a := fun z => by
      rw [z, ha2] at htr
      cases htr
    refine ⟨_, rfl, (k2 ns R).1 few3 _ us ((But.of s12).trans But.upd) ⟨dx, tr, upd_same, by rw [upd_ne nt]; exact htr⟩ (its_put1 (fs := []) ha2 i2)⟩
abbrev s_iand : Stmt := inClass (topS 27) 23
theorem sc_iand : FnScope N_in ["self", "other"] (defScope s_iand) := ⟨rfl, rfl, rfl, by decide +kernel, rfl, by decide +kernel, by decide +kernel⟩
theorem ok_iand (D : DefsK K fd) (T : Txt K mg) : FnOk P w K mg base (L2.CX P w) 9 (ma K (ga K "Row") "__iand__") (fd 11) ["self", "other"] (spIn K "&") := by
  have zisi : mg "isinstance" = none := T.bl (by decide +kernel)
  have zlist : mg "list" = none := T.bl (by decide +kernel)
  have ztup : mg "tuple" = none := T.bl (by decide +kernel)
  have gR : mg "Row" = some (.ref (ga K "Row")) := T.cl (by decide +kernel)
  have gJ := T.fn (x := "joined") (by decide +kernel)
  have FJ : FnP K "joined" "joined" s_joined (ga K "joined") (fd 22) := D 22 _ rfl
  have GJ : FnOk P w K mg base (L2.CX P w) 8 (ga K "joined") (fd 22) ["sign", "left", "right"] (spJoined K) := ok_joined D T
  have bJ : Binds K (fd 22) ["sign", "left", "right"] [] := FJ.bindsN fun _ _ _ _ _ _ us hl => match us, hl with | [_, _, _], _ => rfl
  have F : FnP K "__iand__" "Row.__iand__" s_iand (ma K (ga K "Row") "__iand__") (fd 11) := D 11 _ rfl
  refine F.ok sc_iand (fun vs H Q E h => ?_) (fun cdv A outer s H vs Q E hr h => ?_)
  · obtain ⟨a, y, us0, xs, ps, os, t, rfl, _⟩ := h
    rfl
  · obtain ⟨a, y, us0, xs, ps, os, t, rfl, ra, ia, up, few, op, S, kg, kb⟩ := h
    refine ⟨_, (pss_cons (ps_if (pt_not (pt_val (pe_callB call_isAT (by rfl) zisi (by decide +kernel) (pa_cons (pv 1) (pa_cons (pe_tupN (pa_cons (pe_glob (v := .ref (ga K "Row")) rfl gR rfl) (pa_cons (pe_bltn (v := .ty "list") (by rfl) zlist (by decide +kernel) rfl) (pa_cons (pe_bltn (v := .ty "tuple") (by rfl) ztup (by decide +kernel) rfl) pa_nil)))) pa_nil))))) (pss_one (ps_ret pe_no)) pss_nil)
    (pss_cons (ps_fld (pv 0) (pe_fld (pe_call (E := E) GJ (hr.mono (by decide)) rfl gJ FJ.kp bJ .nil (passes_call (takes_of rfl rfl rfl rfl) (fun _ _ _ _ h => h)) (pa_cons pe_str (pa_cons (pv 0) (pa_cons (pv 1) pa_nil)))) rfl) rfl)
    (pss_one (ps_ret (pv 0))))), ?_⟩
    obtain ⟨dx, ta, ha, hta⟩ := id ra
    refine ⟨_, rfl, sz1000 (by show 3 ≤ 1000; decide), fun tp H1 f1 s1 g1 => ?_⟩
    refine ⟨.ref y, tp, _, t, [.ref (ga K "Row"), .type "list", .type "tuple"], true, rfl, g1, .cons (.own _) (.cons (.ty _) (.cons (.ty _) .nil)), .inl ((op.same s1).ty T), op.kit T, _, rfl, ?_⟩
    refine iteF ?_
    have la := its_len ia
    refine ⟨_, rfl, _, rfl, "&", a, y, us0, xs, ps.map some, os, rfl, (its_src (row_seq ra) ia (by omega)).same s1, S.same s1, fun ps' qs e1 up1 few1 e2 up2 few2 => ?_, fun z f v bad => (bad_up up few bad).elim, fun z f v bad d H' s' g' => kb z f v bad d H' (s1.trans s') g'⟩
    have ep := some_inj e1
    subst ep
    obtain ⟨k1, k2⟩ := kg qs e2 up2 few2
    refine ⟨k1, fun ns R => ⟨fun few3 x H2 us n2 s2 r2 i2 => ?_, fun big d H2 s2 g2 => (k2 ns R).2 big d H2 (s1.trans s2) g2⟩⟩
    obtain ⟨dr, tr, hr2, htr⟩ := r2
    have s12 := s1.trans s2
    have ha2 := s12 _ _ ha
    refine ⟨x, _, dr, _, _, rfl, hr2, T.clsR, T.naR, rfl, ?_⟩
    refine ⟨_, rfl, a, _, dx, _, rfl, ha2, T.clsR, T.naR, (by show 1 < 1000; decide), ?_⟩
    have nt : tr ≠ a := fun z => by
      rw [z, ha2] at htr
      cases htr
    refine ⟨_, rfl, (k2 ns R).1 few3 _ us ((But.of s12).trans But.upd) ⟨dx, tr, upd_same, by rw [upd_ne nt]; exact htr⟩ (its_put1 (fs := []) ha2 i2)⟩
abbrev s_isub : Stmt := inClass (topS 27) 26
theorem sc_isub : FnScope N_in ["self", "other"] (defScope s_isub) := ⟨rfl, rfl, rfl, by decide +kernel, rfl, by decide +kernel, by decide +kernel⟩
theorem ok_isub (D : DefsK K fd) (T : Txt K mg) : FnOk P w K mg base (L2.CX P w) 9 (ma K (ga K "Row") "__isub__") (fd 12) ["self", "other"] (spIn K "-") := by
  have zisi : mg "isinstance" = none := T.bl (by decide +kernel)
  have zlist : mg "list" = none := T.bl (by decide +kernel)
  have ztup : mg "tuple" = none := T.bl (by decide +kernel)
  have gR : mg "Row" = some (.ref (ga K "Row")) := T.cl (by decide +kernel)
  have gJ := T.fn (x := "joined") (by decide +kernel)
  have FJ : FnP K "joined" "joined" s_joined (ga K "joined") (fd 22) := D 22 _ rfl
  have GJ : FnOk P w K mg base (L2.CX P w) 8 (ga K "joined") (fd 22) ["sign", "left", "right"] (spJoined K) := ok_joined D T
  have bJ : Binds K (fd 22) ["sign", "left", "right"] [] := FJ.bindsN fun _ _ _ _ _ _ us hl => match us, hl with | [_, _, _], _ => rfl
  have F : FnP K "__isub__" "Row.__isub__" s_isub (ma K (ga K "Row") "__isub__") (fd 12) := D 12 _ rfl
  refine F.ok sc_isub (fun vs H Q E h => ?_) (fun cdv A outer s H vs Q E hr h => ?_)
  · obtain ⟨a, y, us0, xs, ps, os, t, rfl, _⟩ := h
    rfl
  · obtain ⟨a, y, us0, xs, ps, os, t, rfl, ra, ia, up, few, op, S, kg, kb⟩ := h
    refine ⟨_, (pss_cons (ps_if (pt_not (pt_val (pe_callB call_isAT (by rfl) zisi (by decide +kernel) (pa_cons (pv 1) (pa_cons (pe_tupN (pa_cons (pe_glob (v := .ref (ga K "Row")) rfl gR rfl) (pa_cons (pe_bltn (v := .ty "list") (by rfl) zlist (by decide +kernel) rfl) (pa_cons (pe_bltn (v := .ty "tuple") (by rfl) ztup (by decide +kernel) rfl) pa_nil)))) pa_nil))))) (pss_one (ps_ret pe_no)) pss_nil)
    (pss_cons (ps_fld (pv 0) (pe_fld (pe_call (E := E) GJ (hr.mono (by decide)) rfl gJ FJ.kp bJ .nil (passes_call (takes_of rfl rfl rfl rfl) (fun _ _ _ _ h => h)) (pa_cons pe_str (pa_cons (pv 0) (pa_cons (pv 1) pa_nil)))) rfl) rfl)
    (pss_one (ps_ret (pv 0))))), ?_⟩
    obtain ⟨dx, ta, ha, hta⟩ := id ra
    refine ⟨_, rfl, sz1000 (by show 3 ≤ 1000; decide), fun tp H1 f1 s1 g1 => ?_⟩
    refine ⟨.ref y, tp, _, t, [.ref (ga K "Row"), .type "list", .type "tuple"], true, rfl, g1, .cons (.own _) (.cons (.ty _) (.cons (.ty _) .nil)), .inl ((op.same s1).ty T), op.kit T, _, rfl, ?_⟩
    refine iteF ?_
    have la := its_len ia
    refine ⟨_, rfl, _, rfl, "-", a, y, us0, xs, ps.map some, os, rfl, (its_src (row_seq ra) ia (by omega)).same s1, S.same s1, fun ps' qs e1 up1 few1 e2 up2 few2 => ?_, fun z f v bad => (bad_up up few bad).elim, fun z f v bad d H' s' g' => kb z f v bad d H' (s1.trans s') g'⟩
    have ep := some_inj e1
    subst ep
    obtain ⟨k1, k2⟩ := kg qs e2 up2 few2
    refine ⟨k1, fun ns R => ⟨fun few3 x H2 us n2 s2 r2 i2 => ?_, fun big d H2 s2 g2 => (k2 ns R).2 big d H2 (s1.trans s2) g2⟩⟩
    obtain ⟨dr, tr, hr2, htr⟩ := r2
    have s12 := s1.trans s2
    have ha2 := s12 _ _ ha
    refine ⟨x, _, dr, _, _, rfl, hr2, T.clsR, T.naR, rfl, ?_⟩
    refine ⟨_, rfl, a, _, dx, _, rfl, ha2, T.clsR, T.naR, (by show 1 < 1000; decide), ?_⟩
    have nt : tr ≠ a := fun z => by
      rw [z, ha2] at htr
      cases htr
    refine ⟨_, rfl, (k2 ns R).1 few3 _ us ((But.of s12).trans But.upd) ⟨dx, tr, upd_same, by rw [upd_ne nt]; exact htr⟩ (its_put1 (fs := []) ha2 i2)⟩
abbrev s_ixor : Stmt := inClass (topS 27) 29
theorem sc_ixor : FnScope N_in ["self", "other"] (defScope s_ixor) := ⟨rfl, rfl, rfl, by decide +kernel, rfl, by decide +kernel, by decide +kernel⟩
theorem ok_ixor (D : DefsK K fd) (T : Txt K mg) : FnOk P w K mg base (L2.CX P w) 9 (ma K (ga K "Row") "__ixor__") (fd 13) ["self", "other"] (spIn K "^") := by
  have zisi : mg "isinstance" = none := T.bl (by decide +kernel)
  have zlist : mg "list" = none := T.bl (by decide +kernel)
  have ztup : mg "tuple" = none := T.bl (by decide +kernel)
  have gR : mg "Row" = some (.ref (ga K "Row")) := T.cl (by decide +kernel)
  have gJ := T.fn (x := "joined") (by decide +kernel)
  have FJ : FnP K "joined" "joined" s_joined (ga K "joined") (fd 22) := D 22 _ rfl
  have GJ : FnOk P w K mg base (L2.CX P w) 8 (ga K "joined") (fd 22) ["sign", "left", "right"] (spJoined K) := ok_joined D T
  have bJ : Binds K (fd 22) ["sign", "left", "right"] [] := FJ.bindsN fun _ _ _ _ _ _ us hl => match us, hl with | [_, _, _], _ => rfl
  have F : FnP K "__ixor__" "Row.__ixor__" s_ixor (ma K (ga K "Row") "__ixor__") (fd 13) := D 13 _ rfl
  refine F.ok sc_ixor (fun vs H Q E h => ?_) (fun cdv A outer s H vs Q E hr h => ?_)
  · obtain ⟨a, y, us0, xs, ps, os, t, rfl, _⟩ := h
    rfl
  · obtain ⟨a, y, us0, xs, ps, os, t, rfl, ra, ia, up, few, op, S, kg, kb⟩ := h
    refine ⟨_, (pss_cons (ps_if (pt_not (pt_val (pe_callB call_isAT (by rfl) zisi (by decide +kernel) (pa_cons (pv 1) (pa_cons (pe_tupN (pa_cons (pe_glob (v := .ref (ga K "Row")) rfl gR rfl) (pa_cons (pe_bltn (v := .ty "list") (by rfl) zlist (by decide +kernel) rfl) (pa_cons (pe_bltn (v := .ty "tuple") (by rfl) ztup (by decide +kernel) rfl) pa_nil)))) pa_nil))))) (pss_one (ps_ret pe_no)) pss_nil)
    (pss_cons (ps_fld (pv 0) (pe_fld (pe_call (E := E) GJ (hr.mono (by decide)) rfl gJ FJ.kp bJ .nil (passes_call (takes_of rfl rfl rfl rfl) (fun _ _ _ _ h => h)) (pa_cons pe_str (pa_cons (pv 0) (pa_cons (pv 1) pa_nil)))) rfl) rfl)
    (pss_one (ps_ret (pv 0))))), ?_⟩
    obtain ⟨dx, ta, ha, hta⟩ := id ra
    refine ⟨_, rfl, sz1000 (by show 3 ≤ 1000; decide), fun tp H1 f1 s1 g1 => ?_⟩
    refine ⟨.ref y, tp, _, t, [.ref (ga K "Row"), .type "list", .type "tuple"], true, rfl, g1, .cons (.own _) (.cons (.ty _) (.cons (.ty _) .nil)), .inl ((op.same s1).ty T), op.kit T, _, rfl, ?_⟩
    refine iteF ?_
    have la := its_len ia
    refine ⟨_, rfl, _, rfl, "^", a, y, us0, xs, ps.map some, os, rfl, (its_src (row_seq ra) ia (by omega)).same s1, S.same s1, fun ps' qs e1 up1 few1 e2 up2 few2 => ?_, fun z f v bad => (bad_up up few bad).elim, fun z f v bad d H' s' g' => kb z f v bad d H' (s1.trans s') g'⟩
    have ep := some_inj e1
    subst ep
    obtain ⟨k1, k2⟩ := kg qs e2 up2 few2
    refine ⟨k1, fun ns R => ⟨fun few3 x H2 us n2 s2 r2 i2 => ?_, fun big d H2 s2 g2 => (k2 ns R).2 big d H2 (s1.trans s2) g2⟩⟩
    obtain ⟨dr, tr, hr2, htr⟩ := r2
    have s12 := s1.trans s2
    have ha2 := s12 _ _ ha
    refine ⟨x, _, dr, _, _, rfl, hr2, T.clsR, T.naR, rfl, ?_⟩
    refine ⟨_, rfl, a, _, dx, _, rfl, ha2, T.clsR, T.naR, (by show 1 < 1000; decide), ?_⟩
    have nt : tr ≠ a := fun z => by
      rw [z, ha2] at htr
      cases htr
    refine ⟨_, rfl, (k2 ns R).1 few3 _ us ((But.of s12).trans But.upd) ⟨dx, tr, upd_same, by rw [upd_ne nt]; exact htr⟩ (its_put1 (fs := []) ha2 i2)⟩
end
end K10
/-! Gow: x[i] and «y in x» by x's own __getitem__, __contains__. -/
namespace Tw
open PySem PySem.Spec PyProof.Rows L2
section
variable {X : Cx} {CX : CXT} {k : Nat} {f C : Addr} {fd : FuncData} {ps : List Str} {sp : Sp} {E : XK}
def rIxOwn (C : Addr) (sp : Sp) (E : XK) : R2 := fun x y H Q => ∃ (a dx : Addr) (fs : List (Str × V)), x = .ref a ∧ H a = some (.ins C dx fs) ∧ sp [x, y] H Q E
theorem fnIn_of {K : PySem.W.Frag} {f : Addr} {x qual : Str} {params : Arguments} {body : List Stmt} {scope : Scope} {dvs : List V} {kws : List (Str × V)} {fd : FuncData} (F : FunD K x qual params body scope dvs kws f fd) : PySem.W.fnIn K f = true := by
  obtain ⟨oc, od, dV, kV, doc, pm, an, cdv, ct, osl, rfl, lk, _⟩ := F.ex
  unfold PySem.W.fnIn
  rw [lk]
theorem pe_ixOwn {a b : Expr} {ta tb : TE} {pos : Pos} (hs : PySem.W.findIn X.K (.ref C) "__getitem__" = some (some (.ref f))) (hf : PySem.W.isFn X.K (.ref f) = true) (hfn : PySem.W.fnIn X.K f = true) (F : FnOk X.prog X.w X.K X.mg X.base CX k f fd ps sp) (hr : Room (k + 1) X.A) (hb : Binds X.K fd ps []) (hx : Passes CX X E)
    (ha : PE X a ta) (hb2 : PE X b tb) (hsl : ∀ v u, subscripted b true v u = runValue (.builtin "lifetime.subscript" ⟨[v, u], []⟩) := by intro _ _; rfl) : PE X (.Subscript a b pos) (tOp (rIxOwn C sp E) ta tb) := by
  refine ⟨fun pins s σ H Q I h => Subscript_ (thn (ha.run pins s σ H _ I h) fun v s1 ⟨x, H1, I1, rx, q1⟩ => thn (hb2.run pins s1 σ H1 _ I1 q1) fun u s2 ⟨y, H2, I2, ry, q2⟩ => ?_)⟩
  obtain ⟨p, dx, fs, rfl, ea, q⟩ := q2
  cases (show v = Value.ref p from rx)
  obtain ⟨od, ox, J⟩ := inst_at I2 ea
  obtain ⟨m, hF⟩ := I2.fr
  exact PySem.W.sub_K hF I2.ok.mod.kin J hs hfn hf (run_in1 (us := [.ref p, u]) (vs := [.ref p, y]) F hr hb hx I2 (.cons rfl (.cons ry .nil)) q) (hsl _ _)
/-- y in x -/
def rHasOwn (C : Addr) (sp : Sp) (E : XK) : R2 := fun y x H Q => ∃ (a dx : Addr) (fs : List (Str × V)), x = .ref a ∧ H a = some (.ins C dx fs) ∧ sp [x, y] H (fun z H' => ∃ b, z = .bl b ∧ Q (.bl b) H') E
theorem op_inOwn (hs : PySem.W.findIn X.K (.ref C) "__contains__" = some (some (.ref f))) (hf : PySem.W.isFn X.K (.ref f) = true) (F : FnOk X.prog X.w X.K X.mg X.base CX k f fd ps sp) (hr : Room k X.A) (hb : Binds X.K fd ps []) (hx : Passes CX X E) : OpR X (compareOp .In) (rHasOwn C sp E) := by
  intro pins s σ H y x u v Q I ry rx h
  obtain ⟨a, dx, fs, rfl, ea, q⟩ := h
  cases (show v = Value.ref a from rx)
  obtain ⟨od, ox, J⟩ := inst_at I ea
  refine wpAny_bind (m := contains (.ref a) u) ?_
  unfold contains
  refine wpAny_holding ?_
  have e0 : stdlibNamesSay? (.ref a) u = none := rfl
  have sp0 : PySem.W.Looks (model X.prog X.w) s.heap (specialOf (.ref a) "__contains__") (some (.ref f)) := J.type.andThen (PySem.W.looks_findIn I.kIn hs)
  simp only [e0]
  refine wpAny_bind (sp0.here ?_)
  rw [if_neg (by intro z; cases z)]
  unfold callSpecialUnlessNone?
  refine wpAny_bind (wpAny_bind (sp0.here (wpAny_holding (wpAny_bind ((PySem.W.bind_fn I.kIn _ (beq_iff_eq.mp hf)).here ?_)))))
  show wpAny _ X.A (if ((Value.ref f == Value.none) = true) then _ else _) _ _ s
  rw [if_neg (by intro z; cases z)]
  refine wpAny_bind (wpAny_mono (run_fn (dvs := []) (ds := []) (us := [.ref a, u]) (vs := [.ref a, y]) F hr hb .nil hx I (.cons rfl (.cons ry .nil)) q) (fun w s' z => ?_) fun _ _ x => x)
  obtain ⟨z', H', I', rz, b, rfl, qz⟩ := z
  cases (show w = Value.bool b from rz)
  exact wpAny_pure (wpAny_truthy_bool (wpAny_pure ⟨.bl b, H', I', rfl, qz⟩))
end
end Tw
namespace K10
open PySem PySem.Spec PyProof.Rows L2 He Tw
abbrev s_str : Stmt := inClass (topS 27) 6
abbrev N_str : List Str := ["self", "first", "behind"]
theorem sc_str : FnScope N_str N_str (defScope s_str) := ⟨rfl, rfl, rfl, by decide +kernel, rfl, by decide +kernel, by decide +kernel⟩
/-- the items from f to ahead of b -/
def spStr (K : Fg) : Sp := fun vs H Q E => ∃ (a : Addr) (f b : Int) (ys : List V) (ps : List (Int × Str)), vs = [.ref a, .int f, .int b] ∧ RowAt K H a ys ∧ Its K H ys ps ∧ ps.length ≤ 400 ∧
  ((0 ≤ f ∧ f ≤ ps.length ∧ f ≤ b ∧ b ≤ ps.length) → ∀ (l : Addr) (H' : Hp), H l = none → Same H H' → H' l = some (.lst ((ys.take b.toNat).drop f.toNat)) → Q (.ref l) H') ∧
  (¬ (0 ≤ f ∧ f ≤ ps.length) → ∀ (d : Addr) (H' : Hp), Same H H' → H' d = some (.xd [("at", .int f)]) → E (.ref (ga K "BadPlace")) (some d) H') ∧
  ((0 ≤ f ∧ f ≤ ps.length) → ¬ (f ≤ b ∧ b ≤ ps.length) → ∀ (d : Addr) (H' : Hp), Same H H' → H' d = some (.xd [("at", .int b)]) → E (.ref (ga K "BadPlace")) (some d) H')
abbrev s_get : Stmt := inClass (topS 27) 5
abbrev N_get : List Str := ["self", "at", "first", "behind"]
theorem sc_get : FnScope N_get ["self", "at"] (defScope s_get) := ⟨rfl, rfl, rfl, by decide +kernel, rfl, by decide +kernel, by decide +kernel⟩
def spGet (K : Fg) : Sp := fun vs H Q E => (∃ (a : Addr) (i : Int) (ys : List V) (ps : List (Int × Str)), vs = [.ref a, .int i] ∧ RowAt K H a ys ∧ Its K H ys ps ∧ ps.length ≤ 400 ∧
    ((0 ≤ i ∧ i < ps.length) → ∀ (o : V), ys[i.toNat]? = some o → Q o H) ∧
    (¬ (0 ≤ i ∧ i < ps.length) → ∀ (d : Addr) (H' : Hp), Same H H' → H' d = some (.xd [("at", .int i)]) → E (.ref (ga K "BadPlace")) (some d) H')) ∨
  ∃ (a t : Addr) (f b : Int), vs = [.ref a, .ref t] ∧ H t = some (.tup [.int f, .int b]) ∧ spStr K [.ref a, .int f, .int b] H Q E
theorem cut_both (xs : List V) {f b : Int} (h0 : 0 ≤ f) (h1 : f ≤ b) (h2 : b ≤ xs.length) : cutV xs (some f) (some b) = (xs.take b.toNat).drop f.toNat := by
  obtain ⟨m, rfl⟩ : ∃ m : Nat, f = (m : Int) := ⟨f.toNat, by omega⟩
  obtain ⟨n, rfl⟩ : ∃ n : Nat, b = (n : Int) := ⟨b.toNat, by omega⟩
  unfold cutV
  rw [HT.sIx_nat, HT.sIx_nat, Int.toNat_natCast, Int.toNat_natCast, Nat.min_eq_left (by omega), Nat.min_eq_left (by omega), List.drop_take]
section
variable {P : Program} {w : World} {K : Fg} {mg : Str → Option Value} {base : Heap} {fd : Nat → FuncData}
theorem G_str (D : DefsK K fd) (T : Txt K mg) : FnOk P w K mg base (L2.CX P w) 3 (ma K (ga K "Row") "stretch") (fd 44) N_str (spStr K) := by
  have zlen : mg "len" = none := T.bl (by decide +kernel)
  have zlist : mg "list" = none := T.bl (by decide +kernel)
  have gB : mg "BadPlace" = some (.ref (ga K "BadPlace")) := T.cl (by decide +kernel)
  have mB : (("BadPlace", 6, "at") : Str × Nat × Str) ∈ errs := by decide +kernel
  obtain ⟨iB, tB⟩ := T.ini mB
  have G_bad : FnOk P w K mg base CX0 1 _ (fd 1) ["self", "at"] (spIni (ga K "BadPlace") "at") := ok_BadPlace (D 1 _ rfl) T
  have b_bad : Binds K (fd 1) ["self", "at"] [] := (show FnP K "__init__" "BadPlace.__init__" (s_err 6) (ma K (ga K "BadPlace") "__init__") (fd 1) from D 1 _ rfl).bindsN fun _ _ _ _ _ _ us hl => match us, hl with | [_, _], _ => rfl
  have F : FnP K "stretch" "Row.stretch" s_str (ma K (ga K "Row") "stretch") (fd 44) := D 44 _ rfl
  refine F.ok sc_str (fun vs H Q E h => ?_) (fun cdv A outer s H vs Q E hr h => ?_)
  · obtain ⟨a, f, b, ys, ps, rfl, _⟩ := h
    rfl
  · obtain ⟨a, f, b, ys, ps, rfl, hA, its, hn, k1, k2, k3⟩ := h
    refine ⟨_, (pss_cons (ps_if (pt_not (pt_chain op_le op_le pe_int (pv 1) (pe_callB call_len (by rfl) zlen (by decide +kernel) (pa_cons (pe_fld (pv 0) rfl) pa_nil)))) (pss_one (ps_raise rfl (takes_of rfl rfl rfl rfl) (pmk_oex (T.xc mB).ox iB tB G_bad (hr.mono (by decide)) b_bad .nil pass0 rfl gB (pa_cons (pv 1) pa_nil)))) pss_nil)
    (pss_cons (ps_if (pt_not (pt_chain op_le op_le (pv 1) (pv 2) (pe_callB call_len (by rfl) zlen (by decide +kernel) (pa_cons (pe_fld (pv 0) rfl) pa_nil)))) (pss_one (ps_raise rfl (takes_of rfl rfl rfl rfl) (pmk_oex (T.xc mB).ox iB tB G_bad (hr.mono (by decide)) b_bad .nil pass0 rfl gB (pa_cons (pv 2) pa_nil)))) pss_nil)
    (pss_one (ps_ret (pe_callTy call_list_of (by rfl) zlist (by decide +kernel) (pa_cons (pe_slice sl_tupA (pe_fld (pv 0) rfl) (po_some (pv 1)) (po_some (pv 2))) pa_nil)))))), ?_⟩
    obtain ⟨dx, t, ha, ht⟩ := id hA
    have ln := its_len its
    refine ⟨_, rfl, _, _, rfl, rfl, _, rfl, ?_⟩
    refine ite2 (fun h0 => ?_) (fun h0 => ?_)
    · refine ⟨_, rfl, a, _, dx, _, _, rfl, ha, T.clsR, T.naR, rfl, _, _, rfl, .inr ⟨_, SqT.of ht, rfl⟩, _, _, rfl, rfl, _, rfl, ?_⟩
      have f0 : 0 ≤ f := of_decide_eq_true h0
      cases h1 : decide (f ≤ (ys.length : Int)) with
      | false =>
        have n1 : ¬ f ≤ (ys.length : Int) := of_decide_eq_false h1
        exact iteT ⟨_, rfl, err_out fun d H5 s5 e5 => k2 (fun z => n1 (by omega)) d H5 s5 e5⟩
      | true =>
        have l1 : f ≤ (ys.length : Int) := of_decide_eq_true h1
        refine iteF ?_
        refine ⟨_, rfl, _, rfl, _, _, rfl, rfl, _, rfl, ?_⟩
        have ff : 0 ≤ f ∧ f ≤ (ps.length : Int) := ⟨f0, by omega⟩
        refine ite2 (fun h2 => ?_) (fun h2 => ?_)
        · refine ⟨_, rfl, a, _, dx, _, _, rfl, ha, T.clsR, T.naR, rfl, _, _, rfl, .inr ⟨_, SqT.of ht, rfl⟩, _, _, rfl, rfl, _, rfl, ?_⟩
          have b0 : f ≤ b := of_decide_eq_true h2
          cases h3 : decide (b ≤ (ys.length : Int)) with
          | false =>
            have n3 : ¬ b ≤ (ys.length : Int) := of_decide_eq_false h3
            exact iteT ⟨_, rfl, err_out fun d H5 s5 e5 => k3 ff (fun z => n3 (by omega)) d H5 s5 e5⟩
          | true =>
            have l3 : b ≤ (ys.length : Int) := of_decide_eq_true h3
            refine iteF ?_
            have cb := cut_both ys f0 b0 l3
            have ok := k1 ⟨f0, ff.2, b0, by omega⟩
            refine ⟨_, rfl, a, _, dx, _, _, rfl, ha, T.clsR, T.naR, rfl, _, rfl, f, rfl, _, rfl, b, rfl, t, ys, rfl, SqT.of ht, fun hw => ⟨t, ys, rfl, .inr (SqT.of ht), fun l hl => ok l _ hl (same_new hl) ?_⟩, fun hw q hq => ⟨q, _, rfl, .inr (SqT.of upd_same), fun l hl => ok l _ ?_ ((same_new hq).trans (same_new hl)) ?_⟩⟩
            · rw [upd_same, ← cb]
              unfold cutV
              rw [hw.1, hw.2]
              simp
            · exact (same_new (o := .tup (cutV ys (some f) (some b))) hq).free hl
            · rw [upd_same, cb]
        · exact ⟨_, rfl, iteT ⟨_, rfl, err_out fun d H5 s5 e5 => k3 ff (fun z => h2 (decide_eq_true z.1)) d H5 s5 e5⟩⟩
    · exact ⟨_, rfl, iteT ⟨_, rfl, err_out fun d H5 s5 e5 => k2 (fun z => h0 (decide_eq_true z.1)) d H5 s5 e5⟩⟩
theorem G_get (D : DefsK K fd) (T : Txt K mg) : FnOk P w K mg base (L2.CX P w) 4 (ma K (ga K "Row") "__getitem__") (fd 43) ["self", "at"] (spGet K) := by
  have zlen : mg "len" = none := T.bl (by decide +kernel)
  have zisi : mg "isinstance" = none := T.bl (by decide +kernel)
  have ztup : mg "tuple" = none := T.bl (by decide +kernel)
  have gB : mg "BadPlace" = some (.ref (ga K "BadPlace")) := T.cl (by decide +kernel)
  have mB : (("BadPlace", 6, "at") : Str × Nat × Str) ∈ errs := by decide +kernel
  obtain ⟨iB, tB⟩ := T.ini mB
  have G_bad : FnOk P w K mg base CX0 1 _ (fd 1) ["self", "at"] (spIni (ga K "BadPlace") "at") := ok_BadPlace (D 1 _ rfl) T
  have b_bad : Binds K (fd 1) ["self", "at"] [] := (show FnP K "__init__" "BadPlace.__init__" (s_err 6) (ma K (ga K "BadPlace") "__init__") (fd 1) from D 1 _ rfl).bindsN fun _ _ _ _ _ _ us hl => match us, hl with | [_, _], _ => rfl
  have F : FnP K "__getitem__" "Row.__getitem__" s_get (ma K (ga K "Row") "__getitem__") (fd 43) := D 43 _ rfl
  have FS : FnP K "stretch" "Row.stretch" s_str (ma K (ga K "Row") "stretch") (fd 44) := D 44 _ rfl
  have GS : FnOk P w K mg base (L2.CX P w) 3 _ (fd 44) N_str (spStr K) := G_str D T
  have bS : Binds K (fd 44) N_str [] := FS.bindsN fun _ _ _ _ _ _ us hl => match us, hl with | [_, _, _], _ => rfl
  have mS := T.mtR2 (m := "stretch") (by decide +kernel)
  refine F.ok sc_get (fun vs H Q E h => ?_) (fun cdv A outer s H vs Q E hr h => ?_)
  · rcases h with ⟨a, i, ys, ps, rfl, _⟩ | ⟨a, t, f, b, rfl, _⟩ <;> rfl
  · refine ⟨_, (pss_cons (ps_if (pt_val (pe_callB call_isA (by rfl) zisi (by decide +kernel) (pa_cons (pv 1) (pa_cons (pe_bltn (v := .ty "tuple") (by rfl) ztup (by decide +kernel) rfl) pa_nil))))
      (pss_cons (ps_asg (pv 1) (pg_tup (by rfl) (pgs_cons (pg_name (i := 2) sc_get.nd rfl (Or.inl rfl)) (pgs_cons (pg_name (i := 3) sc_get.nd rfl (Or.inl rfl)) pgs_nil))))
      (pss_one (ps_ret (pe_meth (E := E) (pv 0) T.clsR mS GS (hr.mono (by decide)) bS .nil (passes_call (takes_of rfl rfl rfl rfl) (fun _ _ _ _ h => h)) (pa_cons (pv 2) (pa_cons (pv 3) pa_nil)))))) pss_nil)
    (pss_cons (ps_if (pt_not (pt_chain op_le op_lt pe_int (pv 1) (pe_callB call_len (by rfl) zlen (by decide +kernel) (pa_cons (pe_fld (pv 0) rfl) pa_nil)))) (pss_one (ps_raise rfl (takes_of rfl rfl rfl rfl) (pmk_oex (T.xc mB).ox iB tB G_bad (hr.mono (by decide)) b_bad .nil pass0 rfl gB (pa_cons (pv 1) pa_nil)))) pss_nil)
    (pss_one (ps_ret (pe_ix ix_tup (pe_fld (pv 0) rfl) (pv 1) (fun _ _ => rfl)))))), ?_⟩
    rcases h with ⟨a, i, ys, ps, rfl, hA, its, hn, k1, k2⟩ | ⟨a, t, f, b, rfl, ht, h⟩
    · obtain ⟨dx, t, ha, ht⟩ := id hA
      have ln := its_len its
      refine ⟨_, rfl, .int i, .ty "tuple", _, _, _, rfl, .ty "tuple", .inl (Bv.int i).ty, kit_ty (r := false) (by decide +kernel), _, rfl, iteF ?_⟩
      refine ⟨_, rfl, _, _, rfl, rfl, _, rfl, ?_⟩
      refine ite2 (fun h0 => ?_) (fun h0 => ?_)
      · refine ⟨_, rfl, a, _, dx, _, _, rfl, ha, T.clsR, T.naR, rfl, _, _, rfl, .inr ⟨_, SqT.of ht, rfl⟩, _, _, rfl, rfl, _, rfl, ?_⟩
        have i0 : 0 ≤ i := of_decide_eq_true h0
        cases h1 : decide (i < (ys.length : Int)) with
        | false =>
          have n1 : ¬ i < (ys.length : Int) := of_decide_eq_false h1
          exact iteT ⟨_, rfl, err_out fun d H5 s5 e5 => k2 (fun z => n1 (by omega)) d H5 s5 e5⟩
        | true =>
          have l1 : i < (ys.length : Int) := of_decide_eq_true h1
          refine iteF ?_
          have hlt : i.toNat < ys.length := by omega
          have hy : ys[i.toNat]? = some ys[i.toNat] := List.getElem?_eq_getElem hlt
          refine ⟨_, rfl, a, _, dx, _, _, rfl, ha, T.clsR, T.naR, rfl, _, rfl, t, ys, i, _, rfl, rfl, SqT.of ht, ?_, k1 ⟨i0, by omega⟩ _ hy⟩
          have := atI_nat hy
          rwa [Int.toNat_of_nonneg i0] at this
      · exact ⟨_, rfl, iteT ⟨_, rfl, err_out fun d H5 s5 e5 => k2 (fun z => h0 (decide_eq_true z.1)) d H5 s5 e5⟩⟩
    · refine ⟨_, rfl, .ref t, .ty "tuple", _, _, _, rfl, .ty "tuple", .inl (Bv.tup ht).ty, kit_ty (r := true) (by decide +kernel), _, rfl, iteT ?_⟩
      obtain ⟨a', f', b', ys, ps, e, hA, r⟩ := id h
      cases e
      obtain ⟨dx, tt, ha, _⟩ := id hA
      exact ⟨_, rfl, t, _, rfl, SqT.of ht, rfl, _, _, rfl, _, _, rfl, rfl, _, rfl, a, dx, _, rfl, ha, rfl, _, rfl, _, rfl, h⟩
end
end K10
namespace K10
open PySem PySem.Spec PyProof.Rows L2 He Tw
abbrev s_set : Stmt := inClass (topS 27) 7
abbrev N_set : List Str := ["self", "at", "worth", "found"]
theorem sc_set : FnScope N_set ["self", "at", "worth"] (defScope s_set) := ⟨rfl, rfl, rfl, by decide +kernel, rfl, by decide +kernel, by decide +kernel⟩
/-- row[at] = value -/
def spSet (K : Fg) : Sp := fun vs H Q E => ∃ (a : Addr) (i : Int) (x : V) (ys : List V) (ps : List (Int × Str)), vs = [.ref a, .int i, x] ∧ RowAt K H a ys ∧ Its K H ys ps ∧ ps.length ≤ 200 ∧
  (¬ (0 ≤ i ∧ i < ps.length) → ∀ (d : Addr) (H' : Hp), Same H H' → H' d = some (.xd [("at", .int i)]) → E (.ref (ga K "BadPlace")) (some d) H') ∧
  (0 ≤ i → i < ps.length → ∃ o, Vv K H x o ∧
    (∀ (ps' : List (Int × Str)), (ps.map some).set i.toNat o = ps'.map some → Up ps' ps'.length → ∀ (H' : Hp) (ys' : List V), But a H H' → RowAt K H' a ys' → Its K H' ys' ps' → Q .non H') ∧
    (∀ (n f : Str) (v : Int), Bad ((ps.map some).set i.toNat o) n f v → ∀ (d : Addr) (H' : Hp), Same H H' → H' d = some (.xd [(f, .int v)]) → E (.ref (ga K n)) (some d) H'))
theorem ixN_of {n : Nat} {i : Int} (h0 : 0 ≤ i) (h1 : i < n) : ixN n i = some i.toNat := by
  unfold ixN
  simp [h0, h1, Int.not_lt.mpr h0]
theorem its_set {K : Fg} {H : Hp} {ys : List V} {ps : List (Int × Str)} (h : Its K H ys ps) {n : Nat} {x : V} {o : Option (Int × Str)} (hx : Vv K H x o) : ∀ (i : Nat) (y : V), (ys.set n x)[i]? = some y → ∃ o', ((ps.map some).set n o)[i]? = some o' ∧ Vv K H y o' := by
  intro i y hy
  have hl := its_len h
  have hi : i < ys.length := by
    have := (List.getElem?_eq_some_iff.mp hy).1
    rwa [List.length_set] at this
  by_cases e : n = i
  · subst e
    rw [List.getElem?_set_self hi] at hy
    cases hy
    exact ⟨o, List.getElem?_set_self (by rw [List.length_map]; omega), hx⟩
  · rw [List.getElem?_set_ne e] at hy
    obtain ⟨b, eb, ib⟩ := its_at h (List.getElem?_eq_getElem (show i < ps.length by omega))
    rw [hy] at eb
    cases eb
    exact ⟨some ps[i], by rw [List.getElem?_set_ne e, List.getElem?_map, List.getElem?_eq_getElem]; rfl, .item ib⟩
section
variable {P : Program} {w : World} {K : Fg} {mg : Str → Option Value} {base : Heap} {fd : Nat → FuncData}
theorem b_set (D : DefsK K fd) : Binds K (fd 45) ["self", "at", "worth"] [] := (show FnP K "__setitem__" "Row.__setitem__" s_set (ma K (ga K "Row") "__setitem__") (fd 45) from D 45 _ rfl).bindsN fun _ _ _ _ _ _ us hl => match us, hl with | [_, _, _], _ => rfl
theorem G_set (D : DefsK K fd) (T : Txt K mg) : FnOk P w K mg base (L2.CX P w) 8 (ma K (ga K "Row") "__setitem__") (fd 45) ["self", "at", "worth"] (spSet K) := by
  have zlen : mg "len" = none := T.bl (by decide +kernel)
  have zlist : mg "list" = none := T.bl (by decide +kernel)
  have gR : mg "Row" = some (.ref (ga K "Row")) := T.cl (by decide +kernel)
  have gB : mg "BadPlace" = some (.ref (ga K "BadPlace")) := T.cl (by decide +kernel)
  have mB : (("BadPlace", 6, "at") : Str × Nat × Str) ∈ errs := by decide +kernel
  obtain ⟨iB, tB⟩ := T.ini mB
  have G_bad : FnOk P w K mg base CX0 1 _ (fd 1) ["self", "at"] (spIni (ga K "BadPlace") "at") := ok_BadPlace (D 1 _ rfl) T
  have b_bad : Binds K (fd 1) ["self", "at"] [] := (show FnP K "__init__" "BadPlace.__init__" (s_err 6) (ma K (ga K "BadPlace") "__init__") (fd 1) from D 1 _ rfl).bindsN fun _ _ _ _ _ _ us hl => match us, hl with | [_, _], _ => rfl
  have Gr : FnOk P w K mg base (L2.CX P w) 6 (ma K (ga K "Row") "__init__") (fd 6) ["self", "items"] (spRow K) := G_row D T
  have F : FnP K "__setitem__" "Row.__setitem__" s_set (ma K (ga K "Row") "__setitem__") (fd 45) := D 45 _ rfl
  refine F.ok sc_set (fun vs H Q E h => ?_) (fun cdv A outer s H vs Q E hr h => ?_)
  · obtain ⟨a, i, x, ys, ps, rfl, _⟩ := h
    rfl
  · obtain ⟨a, i, x, ys, ps, rfl, hA, its, hn, kb, kg⟩ := h
    refine ⟨_, (pss_cons (ps_if (pt_not (pt_chain op_le op_lt pe_int (pv 1) (pe_callB call_len (by rfl) zlen (by decide +kernel) (pa_cons (pe_fld (pv 0) rfl) pa_nil)))) (pss_one (ps_raise rfl (takes_of rfl rfl rfl rfl) (pmk_oex (T.xc mB).ox iB tB G_bad (hr.mono (by decide)) b_bad .nil pass0 rfl gB (pa_cons (pv 1) pa_nil)))) pss_nil)
    (pss_cons (ps_set (i := 3) sc_set.nd rfl (Or.inl rfl) (pe_callTy call_list_of (by rfl) zlist (by decide +kernel) (pa_cons (pe_fld (pv 0) rfl) pa_nil)))
    (pss_cons (ps_asg (pv 2) (pg_sub (pv 3) (pv 1) set_list))
    (pss_one (ps_fld (pv 0) (pe_fld (pe_makeS T.mkR Gr (hr.mono (by decide)) rfl gR (bRow D) (fun σ => passAt (takes_of rfl rfl rfl rfl) σ) (pa_cons (pv 3) pa_nil)) rfl) rfl))))), ?_⟩
    obtain ⟨dx, t, ha, ht⟩ := id hA
    have ln := its_len its
    have raise : ¬ (0 ≤ i ∧ i < ps.length) → ∀ (d : Addr) (H' : Hp), Same H H' → H' d = some (.xd [("at", .int i)]) → E (.ref (ga K "BadPlace")) (some d) H' := kb
    refine ⟨_, rfl, _, _, rfl, rfl, _, rfl, ?_⟩
    refine ite2 (fun h0 => ?_) (fun h0 => ?_)
    · refine ⟨_, rfl, a, _, dx, _, _, rfl, ha, T.clsR, T.naR, rfl, _, _, rfl, .inr ⟨_, SqT.of ht, rfl⟩, _, _, rfl, rfl, _, rfl, ?_⟩
      have i0 : 0 ≤ i := of_decide_eq_true h0
      cases h1 : decide (i < (ys.length : Int)) with
      | false =>
        have n1 : ¬ i < (ys.length : Int) := of_decide_eq_false h1
        exact iteT ⟨_, rfl, err_out fun d H5 s5 e5 => kb (fun z => n1 (by omega)) d H5 s5 e5⟩
      | true =>
        have l1 : i < (ys.length : Int) := of_decide_eq_true h1
        obtain ⟨o, hv, kok, kbad⟩ := kg i0 (by omega)
        refine iteF ?_
        refine ⟨_, rfl, a, _, dx, _, _, rfl, ha, T.clsR, T.naR, rfl, t, ys, rfl, .inr (SqT.of ht), fun l hl => ?_⟩
        have s1 := same_new (o := .lst ys) hl
        have hat : a ≠ l := ne_of_none ha hl
        have htt : t ≠ l := ne_of_none ht hl
        refine ⟨_, rfl, _, rfl, _, rfl, l, ys, i, i.toNat, rfl, rfl, upd_same, ?_, ?_⟩
        · exact ixN_of i0 l1
        · rw [upd_upd]
          have s2 : Same H (upd H l (.lst (ys.set i.toNat x))) := same_new hl
          have gl : (upd H l (.lst (ys.set i.toNat x))) l = some (.lst (ys.set i.toNat x)) := upd_same
          have ha2 := s2 _ _ ha
          generalize upd H l (.lst (ys.set i.toNat x)) = H2 at s2 gl ha2 ⊢
          refine ⟨_, rfl, fun b db hb hdb hne => ?_⟩
          have s3 := same_made (o := .own b) (u := .ins (ga K "Row") db []) hdb hb hne
          have itsH := its
          refine ⟨b, l, db, ys.set i.toNat x, (ps.map some).set i.toNat o, rfl, upd_same, ⟨.inl (SqL.of (s3 _ _ gl)), ?_, ?_, ?_⟩, fun ps' e up few H4 ys' B4 r4 i4 => ?_, fun n f v bad d H4 s4 e4 => ?_⟩
          · rw [List.length_set]
            omega
          · rw [List.length_set, List.length_set, List.length_map]
            exact ln.symm
          · exact its_set ((its.same s2).same s3) ((hv.same s2).same s3)
          · have S4 : Same H2 H4 := same_but s3 B4 hb
            obtain ⟨db4, t4, hb4, ht4⟩ := id r4
            have ha4 := S4 _ _ ha2
            refine ⟨rfl, b, _, db4, _, _, rfl, hb4, T.clsR, T.naR, rfl, _, rfl, a, _, dx, _, rfl, ha4, T.clsR, T.naR, (by show 1 < 1000; decide), ?_⟩
            have hat4 : t4 ≠ a := fun z => by
              rw [z, ha4] at ht4
              cases ht4
            refine kok ps' e up _ ys' ((But.of (s2.trans S4)).trans But.upd) ⟨dx, t4, upd_same, by rw [upd_ne hat4]; exact ht4⟩ (its_put (fun dx' i z e => ?_) i4)
            rw [ha4] at e
            exact nomatch (HO.ins.inj (Option.some.inj e)).2.2
          · exact kbad n f v bad d H4 ((s2.trans s3).trans s4) e4
    · have n0 : ¬ 0 ≤ i := fun z => h0 (decide_eq_true z)
      refine ⟨_, rfl, ?_⟩
      exact iteT ⟨_, rfl, err_out fun d H5 s5 e5 => kb (fun z => n0 z.1) d H5 s5 e5⟩
end
end K10
namespace K10
open PySem PySem.Spec PyProof.Rows L2 He Tw
abbrev s_ti : Stmt := inClass (topS 25) 0
theorem sc_ti : FnScope ["self", "owner"] ["self", "owner"] (defScope s_ti) := ⟨rfl, rfl, rfl, by decide +kernel, rfl, by decide +kernel, by decide +kernel⟩
abbrev s_te : Stmt := inClass (topS 25) 1
theorem sc_te : FnScope ["self"] ["self"] (defScope s_te) := ⟨rfl, rfl, rfl, by decide +kernel, rfl, by decide +kernel, by decide +kernel⟩
abbrev s_tri : Stmt := inClass (topS 27) 33
theorem sc_tri : FnScope ["self"] ["self"] (defScope s_tri) := ⟨rfl, rfl, rfl, by decide +kernel, rfl, by decide +kernel, by decide +kernel⟩
/-- a trial of the row at a, that keeps the tuple at s -/
def TrAt (K : Fg) (H : Hp) (t a s : Addr) : Prop := ∃ dx, H t = some (.ins (ga K "Trial") dx [("owner", .ref a), ("kept", .ref s)])
/-- the row at a has the tuple at s -/
def StAt (K : Fg) (H : Hp) (a s : Addr) : Prop := ∃ dx, H a = some (.ins (ga K "Row") dx [("state", .ref s)])
def spTi (K : Fg) : Sp := fun vs H Q _ => ∃ (t dx a s : Addr), vs = [.ref t, .ref a] ∧ H t = some (.ins (ga K "Trial") dx []) ∧ StAt K H a s ∧ ∀ H', But t H H' → TrAt K H' t a s → Q .non H'
def spTe (K : Fg) : Sp := fun vs H Q _ => ∃ (t a s0 s : Addr), vs = [.ref t] ∧ TrAt K H t a s0 ∧ StAt K H a s ∧ ∀ H', But t H H' → TrAt K H' t a s → Q (.ref a) H'
def spTri (K : Fg) : Sp := fun vs H Q _ => ∃ (a s : Addr), vs = [.ref a] ∧ StAt K H a s ∧ ∀ (t : Addr) (H' : Hp), H t = none → Same H H' → TrAt K H' t a s → Q (.ref t) H'
section
variable {P : Program} {w : World} {K : Fg} {mg : Str → Option Value} {base : Heap} {fd : Nat → FuncData}
theorem ok_ti {f : Addr} {fd : FuncData} (F : FnP K "__init__" "Trial.__init__" s_ti f fd) (T : Txt K mg) : FnOk P w K mg base CX0 1 f fd ["self", "owner"] (spTi K) := by
  refine F.ok sc_ti (fun vs H Q E h => ?_) (fun cdv A outer s H vs Q E hr h => ?_)
  · obtain ⟨t, dx, a, s, rfl, _⟩ := h
    rfl
  · obtain ⟨t, dx, a, s, rfl, ht, ⟨da, ha⟩, k⟩ := h
    refine ⟨_, PSs.nox (pss_cons (ps_fld (pv 0) (pv 1) rfl) (pss_one (ps_fld (pv 0) (pe_fld (pv 1) rfl) rfl))), ?_⟩
    have na : a ≠ t := fun z => by
      rw [z, ht] at ha
      simp at ha
    refine ⟨_, rfl, _, rfl, t, _, dx, _, rfl, ht, T.clsT, T.naT (by decide +kernel), (by show 0 < 1000; decide), ?_⟩
    refine ⟨_, rfl, a, _, da, _, _, rfl, by rw [upd_ne na]; exact ha, T.clsR, T.naR, rfl, _, rfl, t, _, dx, _, rfl, upd_same, T.clsT, T.naT (by decide +kernel), (by show 1 < 1000; decide), ?_⟩
    exact k _ (But.upd.trans But.upd) ⟨dx, upd_same⟩
theorem ok_te {f : Addr} {fd : FuncData} (F : FnP K "__enter__" "Trial.__enter__" s_te f fd) (T : Txt K mg) : FnOk P w K mg base CX0 1 f fd ["self"] (spTe K) := by
  refine F.ok sc_te (fun vs H Q E h => ?_) (fun cdv A outer s H vs Q E hr h => ?_)
  · obtain ⟨t, a, s0, s, rfl, _⟩ := h
    rfl
  · obtain ⟨t, a, s0, s, rfl, ⟨dx, ht⟩, ⟨da, ha⟩, k⟩ := h
    refine ⟨_, PSs.nox (pss_cons (ps_fld (pv 0) (pe_fld (pe_fld (pv 0) rfl) rfl) rfl) (pss_one (ps_ret (pe_fld (pv 0) rfl)))), ?_⟩
    refine ⟨_, rfl, t, _, dx, _, _, rfl, ht, T.clsT, T.naT (by decide +kernel), rfl, a, _, da, _, _, rfl, ha, T.clsR, T.naR, rfl, _, rfl, t, _, dx, _, rfl, ht, T.clsT, T.naT (by decide +kernel), (by show 2 < 1000; decide), ?_⟩
    refine ⟨_, rfl, t, _, dx, _, _, rfl, upd_same, T.clsT, T.naT (by decide +kernel), rfl, ?_⟩
    exact k _ But.upd ⟨dx, upd_same⟩
theorem ok_tri (D : DefsK K fd) (F : FnP K "trial" "Row.trial" s_tri (ma K (ga K "Row") "trial") (fd 47)) (T : Txt K mg) : FnOk P w K mg base CX0 3 (ma K (ga K "Row") "trial") (fd 47) ["self"] (spTri K) := by
  have gT : mg "Trial" = some (.ref (ga K "Trial")) := T.cl (by decide +kernel)
  have FT : FnP K "__init__" "Trial.__init__" s_ti (ma K (ga K "Trial") "__init__") (fd 49) := D 49 _ rfl
  have GT : FnOk P w K mg base CX0 1 _ (fd 49) ["self", "owner"] (spTi K) := ok_ti FT T
  have bT : Binds K (fd 49) ["self", "owner"] [] := FT.bindsN fun _ _ _ _ _ _ us hl => match us, hl with | [_, _], _ => rfl
  refine F.ok sc_tri (fun vs H Q E h => ?_) (fun cdv A outer s H vs Q E hr h => ?_)
  · obtain ⟨a, s, rfl, _⟩ := h
    rfl
  · obtain ⟨a, s, rfl, hs, k⟩ := h
    refine ⟨_, PSs.nox (pss_one (ps_ret (pe_make (E := E0) T.mkT GT (hr.mono (by decide)) rfl gT bT .nil pass0 (pa_cons (pv 0) pa_nil)))), ?_⟩
    refine ⟨_, rfl, fun t dx h1 h2 h3 => ?_⟩
    have sm := same_made (o := .own t) (u := .ins (ga K "Trial") dx []) h2 h1 h3
    obtain ⟨da, ha⟩ := hs
    exact ⟨t, dx, a, s, rfl, upd_same, ⟨da, sm _ _ ha⟩, fun H' B tr => ⟨rfl, k t H' h1 (same_but sm B h1) tr⟩⟩
end
end K10
/-! Grs: z[::-1] of a text. -/
namespace Tw
open PySem PySem.Spec PyProof.Rows L2
def revS (z : Str) : Str := ⟨z.cps.toList.reverse.toArray⟩
theorem revS_length (z : Str) : (revS z).length = z.length := by
  show z.cps.toList.reverse.toArray.size = z.cps.size
  rw [List.size_toArray, List.length_reverse, Array.length_toList]
theorem rev_ix (z : Str) : ((Builtin.Str.strSliceIndices none none (-1) z.length).filterMap (z.cps[·]?)).toArray = z.cps.toList.reverse.toArray := by
  show ((sliceRange ((z.cps.size : Int) - 1) (-1) (-1)).filterMap (z.cps[·]?)).toArray = _
  rw [PySem.W.krv_sliceRange, PySem.W.krv_range, List.filterMap_reverse, PySem.W.krv_all]
section
variable {X : Cx}
def tRevS (te : TE) : TE := fun σ H Q => te σ H fun x H1 => ∃ z, x = .str z ∧ z.length ≤ sizeLine ∧ Q (.str (revS z)) H1
theorem pe_revS {e : Expr} {te : TE} {k : Nat} {p1 p2 p3 pos : Pos} (he : PE X e te) : PE X (.Subscript e (.Slice none none (some (.UnaryOp .USub (.Constant (.int 1) k p1) p2)) p3) pos) (tRevS te) := by
  refine ⟨fun pins s σ H Q I h => ?_⟩
  refine Subscript_ (thn (he.run pins s σ H _ I h) fun v s1 ⟨x, H1, I1, r1, q1⟩ => ?_)
  obtain ⟨z, ex, hz, q⟩ := q1
  subst ex
  obtain ⟨t, rfl⟩ := r1
  have hst : PO X (some (.UnaryOp .USub (.Constant (.int 1) k p1) p2)) (tPart (tUn (rU fun i => .int (-i)) (tC (.int 1)))) := po_some (pe_un un_neg pe_int)
  refine wpAny_Slice (thn (po_none.run pins s1 σ H1 (fun o H2 => o = none ∧ H2 = H1) I1 ⟨rfl, rfl⟩) fun vl s2 ⟨l, H2, I2, pl, el, e2⟩ => ?_)
  subst el e2
  refine thn (po_none.run pins s2 σ H2 (fun o H3 => o = none ∧ H3 = H2) I2 ⟨rfl, rfl⟩) fun vu s3 ⟨u, H3, I3, pu, eu, e3⟩ => ?_
  subst eu e3
  refine thn (hst.run pins s3 σ H3 (fun o H4 => o = some (-1) ∧ H4 = H3) I3 ⟨1, rfl, -1, rfl, rfl, rfl⟩) fun vs s4 ⟨o, H4, I4, ps, eo, e4⟩ => ?_
  subst eo e4
  have I5 : Inv X pins σ H4 { s4 with heap := s4.heap.push { cls := .type "slice", data := .fields #[vl, vu, vs] } } := I4.kept (t' := s4.toks) fun b ob q => Heap.get?_push_of_some _ q
  show wpAny (model X.prog X.w) X.A (subscriptTail e (.Slice none none (some (.UnaryOp .USub (.Constant (.int 1) k p1) p2)) p3) (.str z t) (.ref s4.heap.objs.size)) (EP X pins σ Q) X.xe { s4 with heap := s4.heap.push { cls := .type "slice", data := .fields #[vl, vu, vs] } }
  obtain ⟨l, rfl, hl⟩ := IsPart.raw pl
  obtain ⟨u, rfl, hu⟩ := IsPart.raw pu
  obtain ⟨st, rfl, hs⟩ := IsPart.raw ps
  refine tail_any (T := "str") (ops := [.str z t, .ref s4.heap.objs.size]) (typeIs_str _ _ _) (PySem.F.slot_str_getitem.lookup) ?_ (by with_unfolding_all rfl)
  refine wpAny_getItem_str_slice (l := l) (u := u) (st := st) ⟨_, Heap.get?_push_size _ rfl, rfl, rfl⟩ (by rw [hs]; rfl) ?_
  obtain rfl : l = none := by
    cases l with
    | none => rfl
    | some x => cases hl
  obtain rfl : u = none := by
    cases u with
    | none => rfl
    | some x => cases hu
  obtain ⟨t1, rfl⟩ : ∃ t1, st = some (-1, t1) := by
    cases st with
    | none => cases hs
    | some x =>
      obtain ⟨i, t1⟩ := x
      cases hs
      exact ⟨t1, rfl⟩
  have hc : ¬ (((-1 : Int) == 1 && (Builtin.Str.strSliceIndices none none (-1) z.length).length == z.length) = true) := by
    rw [show ((-1 : Int) == 1) = false from by decide, Bool.false_and]
    exact Bool.false_ne_true
  have hl' : (revS z).length ≤ sizeLine := by rw [revS_length]; exact hz
  unfold revS at q hl'
  rw [← rev_ix] at q hl'
  show Made.post (if ((-1 : Int) == 1 && (Builtin.Str.strSliceIndices none none (-1) z.length).length == z.length) = true then Made.val (.str z t) else Made.str ⟨((Builtin.Str.strSliceIndices none none (-1) z.length).filterMap (z.cps[·]?)).toArray⟩) (EP X pins σ Q) _
  rw [if_neg hc]
  exact ⟨hl', .str _, H4, I5.tok _, ⟨_, rfl⟩, q⟩
end
end Tw
namespace K10
open PySem PySem.Spec PyProof.Rows L2 He Tw
/-- what the callable of this way answers for a name -/
def ansV (i : Nat) (z : Str) : V := match i with
  | 0 => .str z
  | 1 => .int (0 - (z.length : Nat))
  | 2 => .int 5
  | _ => .str (revS z)
/-- one answer is before another one -/
def ltV : V → V → Bool
  | .int i, .int j => decide (i < j)
  | .str a, .str b => decide (a.cps.toList < b.cps.toList)
  | _, _ => false
def rLtA : R2 := fun x y H Q => ((∃ i j, x = .int i ∧ y = .int j) ∨ ∃ a b, x = .str a ∧ y = .str b) ∧ Q (.bl (ltV x y)) H
theorem op_ltA {X : Cx} : OpR X (compareOp .Lt) rLtA := by
  intro pins s σ H x y v u Q I rx ry h
  obtain ⟨h | h, q⟩ := h
  · obtain ⟨i, j, rfl, rfl⟩ := h
    exact op_lt pins s σ H _ _ v u Q I rx ry ⟨i, j, rfl, rfl, q⟩
  · obtain ⟨a, b, rfl, rfl⟩ := h
    exact op_lt_str pins s σ H _ _ v u Q I rx ry ⟨a, b, rfl, rfl, q⟩
theorem ans_two (i : Nat) (z u : Str) : (∃ a b, ansV i z = .int a ∧ ansV i u = .int b) ∨ ∃ a b, ansV i z = .str a ∧ ansV i u = .str b := by
  unfold ansV
  match i with
  | 0 => exact .inr ⟨_, _, rfl, rfl⟩
  | 1 => exact .inl ⟨_, _, rfl, rfl⟩
  | 2 => exact .inl ⟨_, _, rfl, rfl⟩
  | _ + 3 => exact .inr ⟨_, _, rfl, rfl⟩
/-- where a pair goes behind n pairs that are in order: how far it moves back -/
def stepB (w : Nat) (q x : Int × Str) : Bool := decide (x.1 = q.1) && ltV (ansV w q.2) (ansV w x.2)
/-- the place of a pair among the first n -/
def placeN (w : Nat) (q : Int × Str) (ps : List (Int × Str)) : Nat → Nat
  | 0 => 0
  | n + 1 => match ps[n]? with
    | some x => if stepB w q x then placeN w q ps n else n + 1
    | none => n + 1
def putP (w : Nat) (q : Int × Str) (ps : List (Int × Str)) : List (Int × Str) := ps.take (placeN w q ps ps.length) ++ q :: ps.drop (placeN w q ps ps.length)
def settledL (w : Nat) (ps : List (Int × Str)) : List (Int × Str) := ps.foldl (fun acc q => putP w q acc) []
theorem placeN_le (w : Nat) (q : Int × Str) (ps : List (Int × Str)) : ∀ n, placeN w q ps n ≤ n
  | 0 => Nat.le_refl _
  | n + 1 => by
    unfold placeN
    split
    · split
      · exact Nat.le_succ_of_le (placeN_le w q ps n)
      · exact Nat.le_refl _
    · exact Nat.le_refl _
theorem putP_length (w : Nat) (q : Int × Str) (ps : List (Int × Str)) : (putP w q ps).length = ps.length + 1 := by
  unfold putP
  have := placeN_le w q ps ps.length
  rw [List.length_append, List.length_cons, List.length_take, List.length_drop]
  omega
theorem settledL_snoc (w : Nat) (ps : List (Int × Str)) (q : Int × Str) : settledL w (ps ++ [q]) = putP w q (settledL w ps) := by
  unfold settledL
  rw [List.foldl_append]
  rfl
theorem mem_putP {w : Nat} {q x : Int × Str} {ps : List (Int × Str)} (h : x ∈ putP w q ps) : x = q ∨ x ∈ ps := by
  unfold putP at h
  rcases List.mem_append.mp h with h | h
  · exact .inr (List.mem_of_mem_take h)
  · rcases List.mem_cons.mp h with h | h
    · exact .inl h
    · exact .inr (List.mem_of_mem_drop h)
theorem mem_fold {w : Nat} {x : Int × Str} : ∀ {ps acc : List (Int × Str)}, x ∈ ps.foldl (fun acc q => putP w q acc) acc → x ∈ acc ∨ x ∈ ps
  | [], acc, h => .inl h
  | q :: ps, acc, h => by
    rcases mem_fold (ps := ps) h with h | h
    · rcases mem_putP h with h | h
      · exact .inr (h ▸ List.mem_cons_self)
      · exact .inl h
    · exact .inr (List.mem_cons_of_mem _ h)
theorem mem_settledL {w : Nat} {x : Int × Str} {ps : List (Int × Str)} (h : x ∈ settledL w ps) : x ∈ ps := (mem_fold h).elim (fun z => nomatch z) id
theorem len_fold (w : Nat) : ∀ (ps acc : List (Int × Str)), (ps.foldl (fun acc q => putP w q acc) acc).length = acc.length + ps.length
  | [], acc => rfl
  | q :: ps, acc => by
    rw [List.foldl_cons, len_fold w ps, putP_length, List.length_cons]
    omega
theorem settledL_length (w : Nat) (ps : List (Int × Str)) : (settledL w ps).length = ps.length := by
  unfold settledL
  rw [len_fold]
  exact Nat.zero_add _
theorem paired_tk {α β : Type} {F : α → β → Prop} : ∀ {xs : List α} {ys : List β} (n : Nat), Paired F xs ys → Paired F (xs.take n) (ys.take n)
  | _, _, 0, _ => by rw [List.take_zero, List.take_zero]; exact .nil
  | _, _, _ + 1, .nil => .nil
  | _, _, n + 1, .cons h t => .cons h (paired_tk n t)
theorem paired_dp {α β : Type} {F : α → β → Prop} : ∀ {xs : List α} {ys : List β} (n : Nat), Paired F xs ys → Paired F (xs.drop n) (ys.drop n)
  | _, _, 0, h => h
  | _, _, _ + 1, .nil => .nil
  | _, _, n + 1, .cons _ t => paired_dp n t
theorem paired_ap {α β : Type} {F : α → β → Prop} {ys : List α} {zs : List β} (h : Paired F ys zs) : ∀ {xs : List α} {us : List β}, Paired F xs us → Paired F (xs ++ ys) (us ++ zs)
  | _, _, .nil => h
  | _, _, .cons a r => .cons a (paired_ap h r)
theorem iteTe {b : Bool} {A B : Prop} (e : b = true) (h : A) : if b = true then A else B := by
  rw [e]
  exact h
theorem iteFe {b : Bool} {A B : Prop} (e : b = false) (h : B) : if b = true then A else B := by
  rw [e]
  exact h
end K10
/-! Tw: lambdas with a parameter and captured names, as values that are handed on: the heap at hand as the base of what is called. -/
namespace Tw
open PySem PySem.Spec PyProof.Rows L2 He LamX
/-- the heap at hand without what is tracked and without the frames -/
def baseN (h : Heap) (H : Hp) (fs : List Addr) : Heap := PySem.W.hideAll (hidT h H) fs
theorem baseN_get {h : Heap} {H : Hp} {fs : List Addr} {b : Addr} {o : Obj} (e : h.get? b = some o) (n : H b = none) (f : b ∉ fs) : (baseN h H fs).get? b = some o := PySem.W.hideAll_get fs (hidT_get e n) f
theorem of_baseN {h : Heap} {H : Hp} {fs : List Addr} {b : Addr} {o : Obj} (e : (baseN h H fs).get? b = some o) : h.get? b = some o ∧ H b = none := of_hidT (PySem.W.of_hideAll fs e)
theorem baseN_frame {h : Heap} {H : Hp} {fs : List Addr} {b : Addr} (hb : b ∈ fs) : (baseN h H fs).get? b = none := PySem.W.hideAll_none fs hb
theorem frames_base {h base base' : Heap} : ∀ {l : List Env}, (∀ b ∈ frs l, base'.get? b = none) → h.FunFrames base l → h.FunFrames base' l
  | [], _, _ => trivial
  | env :: rest, hb, ⟨k, ⟨L, o, e1, e2, e3, e4⟩, r⟩ => by
    have hm : ∀ b ∈ frs rest, b ∈ frs (env :: rest) := fun b hb => by
      unfold frs at hb ⊢
      rw [List.filterMap_cons]
      split
      · exact hb
      · exact List.mem_cons_of_mem _ hb
    refine ⟨k, ⟨L, o, e1, hb L ?_, e3, e4⟩, frames_base (fun b q => hb b (hm b q)) r⟩
    unfold frs
    rw [List.filterMap_cons, e1]
    exact List.mem_cons_self
section
variable {X : Cx} {pins : List (Addr × Obj)} {σ : L2.St} {H : Hp} {s : Shared}
/-- what is called may take the heap at hand as its base -/
theorem env0_new (I : Inv X pins σ H s) : Env0 X.prog X.w X.K X.mg (baseN s.heap H (frs X.stack)) X.A X.stack s H := by
  have e0 := I.env0
  have kb : ∀ b o, X.base.get? b = some o → (baseN s.heap H (frs X.stack)).get? b = some o := fun b o e => by
    obtain ⟨h1, h2⟩ := e0.bs b o e
    refine baseN_get h1 h2 fun hb => ?_
    have := (e0.funs.mem hb).1
    rw [e] at this
    cases this
  obtain ⟨mb, hb1, hb2⟩ := e0.mod.blt
  exact ⟨e0.frames, ⟨e0.mod.kin.keeps kb, e0.mod.glob.keeps kb, ⟨mb, hb1.keeps kb, hb2⟩, e0.mod.nolimit.keeps kb⟩, fun b o e => of_baseN e, Nat.le_of_eq ((PySem.W.hideAll_size _ _).trans (hidT_size _ _)), frames_base (fun b hb => baseN_frame hb) e0.funs, e0.frf, e0.hok, e0.bare⟩
/-- a def called by a promise over any base -/
theorem run_fnB {CX : CXT} {k : Nat} {f : Addr} {sp : Sp} {E : XK} {Q : VK} {us : List Value} {vs : List V} (F : FnR X.prog X.w X.K X.mg (baseN s.heap H (frs X.stack)) CX k f sp) (hr : Room k X.A) (hx : Passes CX X E) (I : Inv X pins σ H s) (r : Vals vs us) (h : sp vs H Q E) :
    codeAny (model X.prog X.w) X.A (.call (.ref f) ⟨us, []⟩) (fun r s' => match r with | .ok (.ret v) => EP X pins σ Q v s' | .ok _ => False | .error e => X.xe e s') s := by
  refine codeAny_mono (F X.A X.stack s H us vs Q E hr (env0_new I) r h) fun r s' hq => ?_
  match r, hq with
  | .error e, hq => exact hx pins σ H s e s' I hq
  | .ok (.ret u), hq => exact I.after hq
end
/-! ### the lambda's body -/
/-- one parameter, no other name of its own: captured ones and globals -/
structure LamP (sc scope : Scope) (x : Str) : Prop where
  kind : scope.kind = .function
  co : scope.isCoroutine = false
  gen : scope.isGenerator = false
  par : scope.names.lookup x = some .local
  own : ∀ y ∈ scope.names, y.2 ≠ .cell
  free : ∀ y ∈ scope.names, y.2 = .free → sc.names.lookup y.1 = some .cell ∨ sc.names.lookup y.1 = some .free
def lamPB (sc scope : Scope) (x : Str) : Bool :=
  decide (scope.kind = .function) && (!scope.isCoroutine && (!scope.isGenerator && (decide (scope.names.lookup x = some .local) && scope.names.all fun y => !decide (y.2 = .cell) && (!decide (y.2 = .free) || (decide (sc.names.lookup y.1 = some .cell) || decide (sc.names.lookup y.1 = some .free))))))
theorem lamP_by {sc scope : Scope} {x : Str} (h : lamPB sc scope x = true) : LamP sc scope x := by
  unfold lamPB at h
  obtain ⟨h1, h⟩ := ba h
  obtain ⟨h2, h⟩ := ba h
  obtain ⟨h3, h⟩ := ba h
  obtain ⟨h4, h5⟩ := ba h
  refine ⟨of_decide_eq_true h1, by simpa using h2, by simpa using h3, of_decide_eq_true h4, fun y hy => ?_, fun y hy e => ?_⟩
  · have := (ba (List.all_eq_true.mp h5 y hy)).1
    simpa using this
  · have := (ba (List.all_eq_true.mp h5 y hy)).2
    rw [decide_eq_true e, Bool.not_true, Bool.false_or, Bool.or_eq_true] at this
    exact this.imp of_decide_eq_true of_decide_eq_true
/-- the context of the lambda's body -/
def lamC (X : Cx) (base : Heap) (N : List Str) (A : Around) (outer : List Env) (s : Shared) (H : Hp) (E : XK) (scope : Scope) (f c' : Addr) : Cx where
  prog := X.prog
  w := X.w
  K := X.K
  mg := X.mg
  base := base
  A := A.deeper (lamEnv X scope s.heap.objs.size f c')
  N := N
  s_0 := s
  H_0 := H
  env := lamEnv X scope s.heap.objs.size f c'
  outer := outer
  stack := lamEnv X scope s.heap.objs.size f c' :: outer
  ex := []
  fn := fun _ => false
  calm := true
  pn := []
  xe := fun e s' => wpAny (model X.prog X.w) (A.deeper (lamEnv X scope s.heap.objs.size f c')) (leaving (lamEnv X scope s.heap.objs.size f c') e) (fun _ s'' => L2.CX X.prog X.w outer H s E e s'') (fun e' s'' => L2.CX X.prog X.w outer H s E e' s'') s'
/-- what the lambda knows of its maker's names -/
def capS (σ : L2.St) (caps : List Nat) : L2.St := caps.map fun i => (σ[i]?).getD none
section
variable {X : Cx} {pins : List (Addr × Obj)} {σ : L2.St} {H HZ : Hp} {s s1 : Shared}
theorem lam_begin {A : Around} {outer : List Env} {E : XK} {scope : Scope} {f c' : Addr} {h₁ : Heap} {tk : Nat} {x : Str} {cs : List Str} {caps : List Nat} {u : V} {uv : Value} (I : Inv X pins σ H s) (hfn : ∀ y, X.fn y = true) (L : LamP X.env.scope scope x)
    (hcs : ∀ (j : Nat) (y : Str) (i : Nat), cs[j]? = some y → caps[j]? = some i → X.N[i]? = some y) (hl : cs.length = caps.length) (hfr : ∀ y ∈ cs, scope.names.lookup y = some .free)
    (e0 : Env0 X.prog X.w X.K X.mg (baseN s.heap H (frs X.stack)) A outer s1 HZ) (hd : A.handled = none) (ru : RelV u uv)
    (hns : h₁.Ns s1.heap.objs.size fun y => ([(x, uv)] : List (Str × Value)).reverse.lookup y) (kp : ∀ b o, s1.heap.get? b = some o → h₁.get? b = some o) :
    Inv (lamC X (baseN s.heap H (frs X.stack)) (x :: cs) A outer s1 HZ E scope f c') [] (some u :: capS σ caps) HZ { s1 with heap := h₁, toks := tk } := by
  have hfree : ∀ y ∈ scope.names, y.2 = .free → ∃ c, X.env.cells.lookup y.1 = some c := fun y hy e => by
    rcases L.free y hy e with k | k
    · exact I.ok.has _ (.inl k)
    · exact I.ok.has _ (.inr k)
  have cm : ∀ {y c}, (cloFrom X.env.cells scope.names []).lookup y = some c → X.env.cells.lookup y = some c := fun {y c} e => by
    rcases cloFrom_mem (PySem.mem_of_lookup e) with hm | ⟨h1, h2⟩
    · cases hm
    · obtain ⟨c1, hc⟩ := hfree _ h1 rfl
      have hc : X.env.cells.lookup y = some c1 := hc
      have e2 : c = c1 := by
        rw [h2, hc] <;> rfl
      rw [e2]
      exact hc
  have look : ∀ {y}, scope.names.lookup y = some .free → ∃ c, (cloFrom X.env.cells scope.names []).lookup y = some c := fun {y} hl => by
    have hy : (y, NameKind.free) ∈ scope.names := PySem.mem_of_lookup hl
    exact mem_lookup (cloFrom_has (cells := X.env.cells) (acc := []) hy)
  -- the cells stand as they stood
  have cellB : ∀ {y : Str} {c : Addr} {v : Option Value}, X.env.cells.lookup y = some c → s.heap.IsCell c v → h₁.IsCell c v ∧ HZ c = none := fun {y c v} ey ⟨o, ho, hdo⟩ => by
    have nf : c ∉ frs X.stack := fun hb => by
      have ge := I.ok.cab y c (hfn y) ey
      rcases List.mem_cons.mp (I.stkSub _ hb) with z | z
      · exact I.cne y c ey z
      · obtain ⟨_, o', ho', _⟩ := I.ok.funs.mem z
        exact Nat.lt_irrefl _ (Nat.lt_of_lt_of_le (Heap.lt_size ho') ge)
    obtain ⟨q1, q2⟩ := e0.bs c o (baseN_get ho (I.freeC y c ey) nf)
    exact ⟨⟨o, kp _ _ q1, hdo⟩, q2⟩
  have noA : ∀ b : Addr, b ∉ (lamC X (baseN s.heap H (frs X.stack)) (x :: cs) A outer s1 HZ E scope f c').ex := fun b z => absurd (show b ∈ ([] : List Addr) from z) (by simp)
  refine ⟨⟨e0.mod, L.kind, rfl, rfl, Nat.le_refl _, fun y z c e1 e2 => I.ok.inj y z c (cm e1) (cm e2), fun y hy => ?_, fun y c z _ => ?_, fun _ => hd, Around.frames_deeper e0.frames, .inr ⟨rfl, rfl⟩, fun b z => absurd z (noA b), e0.bs, e0.bsz, fun b _ _ => noA b,
      fun b z => absurd z (noA b), e0.funs, e0.frf⟩,
    rfl, e0.bare, Un.kept kp, ⟨_, hns, fun i y v e1 e2 e3 => ?_⟩, fun y c e => ?_, e0.hok.fresh (Nat.le_refl _), fun y c e => ?_, fun q hq => absurd (show q ∈ ([] : List (Addr × Obj)) ++ [] from hq) (by simp), e0.hok.kept kp, ?_⟩
  · have hy : scope.names.lookup y = some .cell ∨ scope.names.lookup y = some .free := hy
    rcases hy with hy | hy
    · exact absurd rfl (L.own _ (PySem.mem_of_lookup hy))
    · exact look hy
  · have z : false = true := z
    cases z
  · have e1 : (x :: cs)[i]? = some y := e1
    have e2 : (some u :: capS σ caps)[i]? = some (some v) := e2
    cases i with
    | zero =>
      cases e1
      cases e2
      exact ⟨uv, ru, .inl ⟨L.par, by show List.lookup x [(x, uv)] = some uv; simp⟩⟩
    | succ j =>
      have e1 : cs[j]? = some y := e1
      have e2 : (capS σ caps)[j]? = some (some v) := e2
      have hj : j < caps.length := by
        rw [← hl]
        exact (List.getElem?_eq_some_iff.mp e1).1
      have ec : caps[j]? = some caps[j] := List.getElem?_eq_getElem hj
      generalize caps[j] = i at ec
      have hN := hcs j y i e1 ec
      have e3 : σ[i]? = some (some v) := by
        unfold capS at e2
        rw [List.getElem?_map, ec] at e2
        have e2 : (σ[i]?).getD none = some v := Option.some.inj e2
        cases q : σ[i]? with
        | none =>
          rw [q] at e2
          cases e2
        | some o =>
          rw [q] at e2
          have e2 : o = some v := e2
          rw [e2]
      have kf := hfr y (List.mem_of_getElem? e1)
      obtain ⟨m, hn, hlo⟩ := I.loc
      have hvis : Vis X.env.scope y := (L.free _ (PySem.mem_of_lookup kf) rfl).elim (fun k => .inr (.inl k)) (fun k => .inr (.inr k))
      obtain ⟨w', r, q⟩ := hlo i y v hN e3 hvis
      obtain ⟨c2, h2⟩ := look kf
      refine ⟨w', r, .inr ⟨.inr kf, c2, h2, ?_⟩⟩
      have c1 := cm h2
      rcases q with ⟨k', _⟩ | ⟨_, c3, e', z⟩
      · have k' : X.env.scope.names.lookup y = some .local := k'
        rcases L.free _ (PySem.mem_of_lookup kf) rfl with k2 | k2 <;> rw [show X.env.scope.names.lookup y = _ from k2] at k' <;> cases k'
      · rw [c1] at e'
        cases e'
        exact (cellB c1 z).1
  · obtain ⟨w', z⟩ := I.cell y c (cm e)
    exact ⟨w', (cellB (cm e) z).1⟩
  · obtain ⟨v, z⟩ := I.cell y c (cm e)
    exact (cellB (cm e) z).2
  · show (some u :: capS σ caps).length = (x :: cs).length
    unfold capS
    rw [List.length_cons, List.length_cons, List.length_map, hl]
/-- what a lambda promises -/
def spLam (tb : XK → TE) (σc : L2.St) (c' : Addr) (q : Str) : Sp := fun vs HZ Q E => ∃ u, vs = [u] ∧ HZ c' = some (CodeO c' q) ∧ tb E (some u :: σc) HZ Q
theorem lam_fnR {f c' : Addr} {pm ctv : Value} {params : Arguments} {body : Expr} {scope : Scope} {k : Nat} {x : Str} {cs : List Str} {caps : List Nat} {tb : XK → TE} (I : Inv X pins σ H s) (hfn : ∀ y, X.fn y = true) (L : LamP X.env.scope scope x)
    (hcs : ∀ (j : Nat) (y : Str) (i : Nat), cs[j]? = some y → caps[j]? = some i → X.N[i]? = some y) (hl : cs.length = caps.length) (hfr : ∀ y ∈ cs, scope.names.lookup y = some .free)
    (hf : s.heap.get? f = some (PySem.W.kla_obj "<lambda>" (X.env.qual ++ "<lambda>") params body scope (cloFrom X.env.cells scope.names []) pm c' ctv)) (hf0 : H f = none) (hf1 : f ∉ frs X.stack)
    (hbind : ∀ u : Value, bindArgs (PySem.W.kla_fn "<lambda>" (X.env.qual ++ "<lambda>") params body scope (cloFrom X.env.cells scope.names []) pm (.ref c') ctv) ⟨[u], []⟩ = pure [(x, u)])
    (hbody : ∀ (A : Around) (outer : List Env) (s1 : Shared) (H1 : Hp) (E : XK), Room k (A.deeper (lamEnv X scope s1.heap.objs.size f c')) → PE (lamC X (baseN s.heap H (frs X.stack)) (x :: cs) A outer s1 H1 E scope f c') body (tb E)) :
    FnR X.prog X.w X.K X.mg (baseN s.heap H (frs X.stack)) (L2.CX X.prog X.w) (k + 1) f (spLam tb (capS σ caps) c' (X.env.qual ++ "<lambda>")) := by
  intro A outer s1 HZ us vs Q E hr e0 r hsp
  obtain ⟨u, rfl, hc, ht⟩ := hsp
  obtain ⟨uv, rfl, ru⟩ := vals1 r
  have of1 := (e0.bs f _ (baseN_get hf hf0 hf1)).1
  obtain ⟨⟨oc, vs, t, hoc, hdc, hvc⟩, _, _⟩ := e0.hok c' _ hc
  have lim : s1.heap.NoLimit := e0.mod.nolimit.keeps fun b o e => (e0.bs b o e).1
  refine PySem.W.kla_callFunE hr.depth of1 rfl L.co L.gen rfl ⟨c', oc, vs, t, rfl, hoc, hdc, hvc⟩ ?_
  rw [hbind]
  refine wpAny_pure (wpAny_newFunctionEnv (fun y hy => L.own y hy) (fun y hy => ?_) (fun h₁ hns hsb => ⟨lim.fresh _ hsb, ?_⟩) L.kind)
  · rw [List.mem_singleton.mp hy]
    exact L.par
  show codeAny _ _ (.expr body (lamEnv X scope s1.heap.objs.size f c')) _ _
  have kp : ∀ b o, s1.heap.get? b = some o → h₁.get? b = some o := fun b o e => hsb.extBut b o (Nat.ne_of_lt (Heap.lt_size e)) (Heap.get?_push_of_some _ e)
  have J : Inv (lamC X (baseN s.heap H (frs X.stack)) (x :: cs) A outer s1 HZ E scope f c') [] (some u :: capS σ caps) HZ { s1 with heap := h₁, toks := s1.toks + ([(x, uv)] : List (Str × Value)).length } :=
    lam_begin I hfn L hcs hl hfr e0 hr.hd ru hns kp
  refine PySem.W.kla_codeExpr (wpAny_mono ((hbody _ _ s1 HZ E (hr.deeper _)).run [] _ _ HZ Q J ht) (fun v s' hq => ?_) fun e s' hq => hq)
  obtain ⟨w', H', J', rv, q⟩ := hq
  exact ⟨w', H', J'.os, J'.bare, J'.base, J'.hok, rv, q⟩
end
/-! ### calls -/
section
variable {X : Cx} {CX : CXT} {k i : Nat} {f : Addr} {sp : Sp} {E : XK} {x : Str} {p pos : Pos} {e : Expr} {es : List Expr} {t : TA}
/-- x(e, ..), x a local name that holds a function of the base -/
theorem pe_callF (hN : X.N[i]? = some x) (hv : Vis X.env.scope x) (hf : PySem.W.FnAt f X.base) (F : FnR X.prog X.w X.K X.mg X.base CX k f sp) (hr : Room k X.A) (hx : Passes CX X E) (ha : PA X (e :: es) t)
    (hd : (x == ("__debug__" : Str)) = false := by decide) (hcd : (x == ("__classdict__" : Str)) = false := by decide)
    (he : starEach (e :: es) X.env = (false, eval e X.env) :: starEach es X.env := by rfl) (hpl : (backTo pos (starEach es X.env)).any (·.1) = false := by rfl) :
    PE X (.Call (.Name x p) (e :: es) [] pos) (fun σ H Q => σ[i]? = some (some (.ref f)) ∧ t σ H fun vs H1 => sp vs H1 Q E) := by
  have at_ : ∀ {pins σ H s}, Inv X pins σ H s → PySem.W.FnAt f s.heap := fun I => by
    obtain ⟨oc, od, fd, sl, h⟩ := hf
    exact ⟨oc, od, fd, sl, I.bk _ _ h⟩
  refine ⟨fun pins s σ H Q I h => wpAny_Call_Name_kw (thn ((pe_var (pos := p) (i := i) hN hv hd hcd).run pins s σ H (fun v H1 => v = .ref f ∧ H1 = H) I ⟨.ref f, h.1, rfl, rfl⟩) fun u s1 ⟨v, H1, I1, r1, ev, eH⟩ => ?_)⟩
  subst ev eH
  cases r1
  refine PySem.W.callWith_F (first := []) (at_ I1) (thn (ha.run pos pins s1 σ _ _ I1 h.2) fun us s2 ⟨vs, H2, I2, r, q⟩ => ⟨at_ I2, ?_⟩) he hpl
  exact wpAny_call (run_fnR F hr hx I2 r q)
end
section
variable {X : Cx} {CX : CXT} {kc k : Nat} {C g c P : Addr} {spB : Heap → Sp} {E : L2.St → XK} {fe : Expr} {tf : TE} {T : List (Addr × Str)} {params : Arguments} {body : Expr} {scope : Scope} {tb : XK → TE} {lpos pos : Pos} {x : Str} {cs : List Str} {caps : List Nat}
def tCallOL (P : Program) (w : World) (K : Fg) (mg : Str → Option Value) (C : Addr) (k : Nat) (T : List (Addr × Str)) (q : Str) (tb : XK → TE) (caps : List Nat) (spB : Heap → Sp) (E : L2.St → XK) (tf : TE) : TE := fun σ H Q => tf σ H fun y H0 => ∃ a, y = .ref a ∧ Tabs T H0 ∧ ∀ (f c' : Addr) (H1 : Hp) (base' : Heap), ExtN H0 H1 → Tabs T H1 → H1 c' = some (CodeO c' q) → PySem.W.FnAt f base' →
  FnR P w K mg base' (L2.CX P w) (k + 1) f (spLam tb (capS σ caps) c' q) → (∃ dx fs, H1 a = some (.ins C dx fs)) ∧ spB base' [.ref a, .ref f] H1 Q (E σ)
/-- o(lambda x: ..), o an instance of C whose __call__ is promised over any base -/
theorem pe_callOL {Pr : Program} {wo : World} {K : Fg} {mg : Str → Option Value} {qn : Str} (hf : PE X fe tf) (co : StX.CallO X.K C g) (F : ∀ base' : Heap, FnR X.prog X.w X.K X.mg base' CX kc g (spB base')) (hr : Room kc X.A) (hx : ∀ σ, PassesAt CX X σ (E σ))
    (TB : TabB X.base X.mg c P) (hcode : X.env.code = .ref c) (hmT : (P, X.env.qual ++ "<lambda>") ∈ T) (hu : ∀ p ∈ T, p.1 = P → p.2 = X.env.qual ++ "<lambda>") (hdef : defaultsOf params X.env = ([], []))
    (hfn : ∀ y, X.fn y = true) (L : LamP X.env.scope scope x) (hcs : ∀ (j : Nat) (y : Str) (i : Nat), cs[j]? = some y → caps[j]? = some i → X.N[i]? = some y) (hl : cs.length = caps.length) (hfr : ∀ y ∈ cs, scope.names.lookup y = some .free)
    (hbind : ∀ (u : Value) (q : Str) (cl : List (Str × Addr)) (pm cv ctv : Value), bindArgs (PySem.W.kla_fn "<lambda>" q params body scope cl pm cv ctv) ⟨[u], []⟩ = pure [(x, u)])
    (hbody : ∀ (base : Heap) (A : Around) (outer : List Env) (s1 : Shared) (H1 : Hp) (E : XK) (f c' : Addr), Room k (A.deeper (lamEnv X scope s1.heap.objs.size f c')) → PE (lamC X base (x :: cs) A outer s1 H1 E scope f c') body (tb E))
    (ht : eval (.Call fe [.Lambda params body scope lpos] [] pos) X.env = (do callWith pos (← eval fe X.env) [] (backTo pos (starEach [.Lambda params body scope lpos] X.env)) (backToKw pos (keywordEach [] X.env))) := by rfl) (hP : X.prog = Pr := by rfl) (hW : X.w = wo := by rfl) (hK : X.K = K := by rfl) (hM : X.mg = mg := by rfl) (hQ : X.env.qual ++ "<lambda>" = qn := by rfl) :
    PE X (.Call fe [.Lambda params body scope lpos] [] pos) (tCallOL Pr wo K mg C k T qn tb caps spB E tf) := by
  subst hP hW hK hM hQ
  refine ⟨fun pins s σ H Q I h => ?_⟩
  refine Call_ (thn (hf.run pins s σ H _ I h) fun u s1 ⟨y, H1, I1, ry, a, ey, hT, q⟩ => ?_) ht
  subst ey
  obtain rfl : u = Value.ref a := ry
  have hfree : ∀ y ∈ scope.names, y.2 = .free → ∃ c, X.env.cells.lookup y.1 = some c := fun y hy e => by
    rcases L.free y hy e with k | k
    · exact I.ok.has _ (.inl k)
    · exact I.ok.has _ (.inr k)
  refine StX.callO_with (Calls.spliced_cons (lam_make2 I1 TB hcode hmT hu hT hdef hfree fun f c' pm ctv H2 s2 I2 eN T2 hf2 hf0 hf1 hco => Calls.spliced_nil ?_)) (by rfl) (by rfl)
  have hfa : PySem.W.FnAt f (baseN s2.heap H2 (frs X.stack)) := ⟨_, _, _, _, baseN_get hf2 hf0 hf1⟩
  have FL := lam_fnR I2 hfn L hcs hl hfr hf2 hf0 hf1 (fun u => hbind u _ _ _ _ _) (fun A outer s1 H1 E hr => hbody _ A outer s1 H1 E f c' hr)
  obtain ⟨hi, q2⟩ := q f c' H2 _ eN T2 hco hfa FL
  obtain ⟨ox, od, J, hd⟩ := StX.insC_at I2 (.inr hi)
  refine ⟨⟨C, ox, od, J, hd⟩, wpAny_call (PySem.W.kco_code I2.kIn J hd co.at_ co.fn co.fi ?_)⟩
  refine codeAny_mono (F _ X.A X.stack s2 H2 [.ref a, .ref f] [.ref a, .ref f] Q (E σ) hr (env0_new I2) (.cons rfl (.cons rfl .nil)) q2) fun r s' hq => ?_
  match r, hq with
  | .error e, hq => exact hx σ pins H2 s2 e s' I2 hq
  | .ok (.ret u), hq => exact I2.after hq
end
end Tw
/-! Tw: lambdas within lambdas: code objects with their tables, tables by names; a lambda of no or one parameter as a promise over the heap at hand. -/
namespace Tw
open PySem PySem.Spec PyProof.Rows L2 He LamX
/-- the code object at c bears the name q, its own table stands at P -/
def CodeN (c : Addr) (q : Str) (P : Addr) : HO := .ext fun h => PySem.W.CodeHd h c P ∧ h.CodeRec (.ref c) q
theorem codeN_ne {c P : Addr} {q : Str} (ps : Array Value) : CodeN c q P ≠ .tbl ps := fun z => by
  unfold CodeN at z
  cases z
theorem head_at {h1 h2 : Heap} {c P : Addr} (x : PySem.W.CodeHd h1 c P) (st : ∀ o, h1.get? c = some o → h2.get? c = some o) : PySem.W.CodeHd h2 c P := by
  obtain ⟨o, vs, file, tf, flags, tg, inF, text, tt, e, r⟩ := x
  exact ⟨o, vs, file, tf, flags, tg, inF, text, tt, st _ e, r⟩
theorem rec_at {h1 h2 : Heap} {c : Addr} {q : Str} (x : h1.CodeRec (.ref c) q) (st : ∀ o, h1.get? c = some o → h2.get? c = some o) : h2.CodeRec (.ref c) q := by
  obtain ⟨c2, o, vs, t, e, g, r⟩ := x
  cases e
  exact ⟨c, o, vs, t, rfl, st _ g, r⟩
/-- what a table named q holds, where ν names the tables -/
def NuAt (host : Str → Option Str) (ν : Addr → Option Str) (H : Hp) (P : Addr) (q : Str) : Prop := ∃ ps : Array Value, H P = some (.tbl ps) ∧ TriplesOk ps.toList ∧
  ∀ (pos : Pos) (cv : Value), codeAmong pos ps.toList = some cv → ∃ c P', cv = .ref c ∧ H c = some (CodeN c q P') ∧ ∀ q2, host q = some q2 → ν P' = some q2
def Nu (host : Str → Option Str) (ν : Addr → Option Str) (H : Hp) : Prop := ∀ P q, ν P = some q → NuAt host ν H P q
/-- the tables of L stand, and what they lead to -/
def Tbn (host : Str → Option Str) (L : List (Addr × Str)) (H : Hp) : Prop := ∃ ν : Addr → Option Str, (∀ p ∈ L, ν p.1 = some p.2) ∧ Nu host ν H
theorem Nu.ext {host : Str → Option Str} {ν : Addr → Option Str} {H H' : Hp} (n : Nu host ν H) (e : ∀ b o, H b = some o → H' b = some o) : Nu host ν H' := fun P q hq => by
  obtain ⟨ps, h1, h2, h3⟩ := n P q hq
  refine ⟨ps, e _ _ h1, h2, fun pos cv hc => ?_⟩
  obtain ⟨c, P', e1, e2, e3⟩ := h3 pos cv hc
  exact ⟨c, P', e1, e _ _ e2, e3⟩
theorem Tbn.ext {host : Str → Option Str} {L : List (Addr × Str)} {H H' : Hp} (t : Tbn host L H) (e : ∀ b o, H b = some o → H' b = some o) : Tbn host L H' := by
  obtain ⟨ν, h1, h2⟩ := t
  exact ⟨ν, h1, h2.ext e⟩
theorem Tbn.less {host : Str → Option Str} {L L' : List (Addr × Str)} {H : Hp} (t : Tbn host L H) (s : ∀ p ∈ L', p ∈ L) : Tbn host L' H := by
  obtain ⟨ν, h1, h2⟩ := t
  exact ⟨ν, fun p hp => h1 p (s p hp), h2⟩
/-! ### the making -/
section
variable {M : Model} {A : Around} {E : Value → Shared → Prop} {s : Shared} {name qual : Str} {params : Arguments} {body : Expr} {scope : Scope} {env : Env} {c P : Addr} {ps : Array Value} {pos : Pos} {mg : Str → Option Value} {clos : List (Str × Addr)} {Q : Value → Shared → Prop}
theorem mk_new (hcl : closureFor scope env = pure clos) (ge : env.globals = mainGlobals) (gl : s.heap.Ns mainGlobals mg) (hcode : env.code = .ref c) (C : PySem.W.CodeHd s.heap c P)
    (hP : s.heap.get? P = some (PySem.W.tabObj ps)) (ht : TriplesOk ps.toList) (hnf : codeAmong pos ps.toList = none) (gP : mainGlobals ≠ P) (hb : s.heap.BuiltinsAt mg P)
    (h : ∀ (c' P' : Addr) (ctv : Value) (h' : Heap) (tk : Tok), Heap.ExtBut P s.heap h' → s.heap.objs.size ≤ c' → c' < h'.objs.size → s.heap.objs.size ≤ P' → h'.CodeRec (.ref c') qual → PySem.W.CodeHd h' c' P' →
      h'.get? P' = some (PySem.W.tabObj #[]) → h'.get? P = some (PySem.W.tabObj (ps ++ #[rawInt pos.line, rawInt pos.col, .ref c'])) →
      Q (.ref h'.objs.size) { s with heap := h'.push (PySem.W.kla_obj name qual params body scope clos ((mg "__name__").getD .none) c' ctv), toks := tk }) :
    wpAny M A (makeFunction name qual params (.expr body) scope env [] [] [] pos pos.line) Q E s := by
  obtain ⟨bm, ob, m1, m2, _, m3, m4, m5, m6, m7⟩ := hb
  rw [makeFunction_eq]
  simp only [List.zip_nil_right, List.filterMap_nil, List.isEmpty_nil, if_true, pure_bind]
  unfold makeTail
  rw [hcl, ge]
  refine wpAny_bind (wpAny_pure ?_)
  cases clos with
  | nil =>
    simp only [List.isEmpty_nil, if_true]
    refine wpAny_bind (wpAny_pure (wpAny_bind ?_))
    refine wpAny_functionCodeX hcode (C.code hP ht) (C.tab hP) hnf fun c' h' tk hx g1 g2 _ r1 t1 n1 => ?_
    obtain ⟨P', p1, p2, p3⟩ := n1
    refine wpAny_bind (wpAny_builtinsFor (gl.extBut hx gP) m1 m2 (hx _ _ m3 m4) m5 m6 m7 (wpAny_bind (wpAny_nsGet (gl.extBut hx gP) (wpAny_bind (wpAny_pure ?_)))))
    exact wpAny_newObj_type (h c' P' .none h' tk hx g1 g2 p1 r1 (PySem.W.CodeHd.of p2 p3) p3.2 t1.2) (by size_fits)
  | cons q r =>
    simp only [List.isEmpty_cons, Bool.false_eq_true, if_false]
    refine wpAny_bind (wpAny_newTextTuple (wpAny_bind ?_))
    have up : ∀ {oT : Obj} (b : Addr) (o : Obj), s.heap.get? b = some o → (s.heap.push oT).get? b = some o := fun b o e => Heap.get?_push_of_some _ e
    have C2 := fun oT : Obj => C.keeps (up (oT := oT))
    refine wpAny_functionCodeX hcode ((C2 _).code (up _ _ hP) ht) ((C2 _).tab (up _ _ hP)) hnf fun c' h' tk hx g1 g2 _ r1 t1 n1 => ?_
    obtain ⟨P', p1, p2, p3⟩ := n1
    have hx2 : Heap.ExtBut P s.heap h' := fun b o n e => hx b o n (up b o e)
    rw [Heap.size_push] at g1 p1
    refine wpAny_bind (wpAny_builtinsFor (gl.extBut hx2 gP) m1 m2 (hx2 _ _ m3 m4) m5 m6 m7 (wpAny_bind (wpAny_nsGet (gl.extBut hx2 gP) (wpAny_bind (wpAny_pure ?_)))))
    exact wpAny_newObj_type (h c' P' _ h' tk hx2 (by omega) g2 (by omega) r1 (PySem.W.CodeHd.of p2 p3) p3.2 t1.2) (by size_fits)
end
section
variable {X : Cx} {pins : List (Addr × Obj)} {σ : L2.St} {H : Hp} {s : Shared}
/-- a table is written, a code object and its empty table are new -/
theorem inv_table2 {P c P' : Addr} {q : Str} {ps more : Array Value} {h' : Heap} {t' : Nat} (I : Inv X pins σ H s) (hP : H P = some (.tbl ps)) (k : ∀ b o, b ≠ P → s.heap.get? b = some o → h'.get? b = some o)
    (hm : h'.get? P = some { cls := .none, data := .fields (ps ++ more) }) (hc : s.heap.objs.size ≤ c) (hp' : s.heap.objs.size ≤ P') (hd : PySem.W.CodeHd h' c P') (hr : h'.CodeRec (.ref c) q) (hn : h'.get? P' = some (PySem.W.tabObj #[])) :
    Inv X pins σ (upd (upd (upd H P (.tbl (ps ++ more))) c (CodeN c q P')) P' (.tbl #[])) { s with heap := h', toks := t' } := by
  have cP : c ≠ P' := by
    obtain ⟨_, _, _, _, _, _, _, _, _, _, _, _, _, _, _, _, _, _, z⟩ := hd
    exact z
  have nC : H c = none := I.hok.fresh hc
  have nQ : H P' = none := I.hok.fresh hp'
  have at_ : ∀ b, b ≠ P → b ≠ c → b ≠ P' → upd (upd (upd H P (.tbl (ps ++ more))) c (CodeN c q P')) P' (.tbl #[]) b = H b := fun b h1 h2 h3 => by rw [upd_ne h3, upd_ne h2, upd_ne h1]
  have atP : upd (upd (upd H P (.tbl (ps ++ more))) c (CodeN c q P')) P' (.tbl #[]) P = some (.tbl (ps ++ more)) := by
    rw [upd_ne (ne_of_none hP nQ), upd_ne (ne_of_none hP nC), upd_same]
  have atC : upd (upd (upd H P (.tbl (ps ++ more))) c (CodeN c q P')) P' (.tbl #[]) c = some (CodeN c q P') := by rw [upd_ne cP, upd_same]
  have nP : ∀ b u, H b = some u → (∀ xs, u ≠ .tbl xs) → b ≠ P := fun b u e n z => by
    rw [z, hP] at e
    exact n ps (Option.some.inj e).symm
  have old : ∀ b o, s.heap.get? b = some o → b ≠ c ∧ b ≠ P' := fun b o e => ⟨Nat.ne_of_lt (Nat.lt_of_lt_of_le (Heap.lt_size e) hc), Nat.ne_of_lt (Nat.lt_of_lt_of_le (Heap.lt_size e) hp')⟩
  have tr : ∀ b u, H b = some u → (∀ xs, u ≠ .tbl xs) → upd (upd (upd H P (.tbl (ps ++ more))) c (CodeN c q P')) P' (.tbl #[]) b = some u := fun b u e n => by
    rw [at_ b (nP b u e n) (ne_of_none e nC) (ne_of_none e nQ)]
    exact e
  have nN : ∀ b, H b = none → b ≠ P := fun b e z => by
    rw [z, hP] at e
    cases e
  refine I.call (ch := []) (g' := s.gens) (d' := s.drawn) ⟨fun b o e n _ _ => k b o (nN b n) e, fun b o e n _ _ => ⟨o.slots, k b o (nN b n) e⟩, fun b o e n _ => ?_, fun b o e _ => ?_, fun b xs e => tr b _ e (fun _ z => by cases z), fun b o u e => tr b _ e (fun _ z => by cases z), fun b xs e => ?_⟩ (fun b u e => ?_) I.bare (fun b hb => absurd hb (by simp))
  · rw [at_ b (nN b n) (old b o e).1 (old b o e).2]
    exact n
  · by_cases z : b = P
    · exact ⟨_, by rw [z]; exact hm⟩
    · exact ⟨o, k b o z e⟩
  · by_cases z : b = P
    · rw [z, hP] at e
      cases e
      exact ⟨more, by rw [z]; exact atP⟩
    · rw [at_ b z (ne_of_none e nC) (ne_of_none e nQ)]
      exact ⟨#[], by rw [e]; simp⟩
  · by_cases z3 : b = P'
    · rw [z3, upd_same] at e
      cases e
      rw [z3]
      exact hn
    · by_cases z2 : b = c
      · rw [z2, atC] at e
        cases e
        rw [z2]
        obtain ⟨c2, oc, vs, t, e2, g2, r2⟩ := id hr
        cases e2
        exact ⟨⟨hd, hr⟩, ⟨oc, g2⟩, fun h1 h2 x st => ⟨head_at x.1 st, rec_at x.2 st⟩⟩
      · by_cases z1 : b = P
        · rw [z1, atP] at e
          cases e
          rw [z1]
          exact hm
        · rw [at_ b z1 z2 z3] at e
          refine (I.hok b u e).stay (fun d v hd q => k d v ?_ q) (fun d q => tr d _ q (fun _ z => by cases z)) fun d xs q => tr d _ q (fun _ z => by cases z)
          rcases hd with z | z
          · rw [z]
            exact z1
          · exact nP d _ z (fun _ z => by cases z)
/-- a lambda is made -/
theorem lam_mk {host : Str → Option Str} {L : List (Addr × Str)} {c P P0 : Addr} {ps : Arguments} {e : Expr} {sc : Scope} {pos : Pos} {E : Value → Shared → Prop} {Q : Value → Shared → Prop} (I : Inv X pins σ H s) (hcode : X.env.code = .ref c)
    (hd : PySem.W.CodeHd s.heap c P) (hB : X.base.BuiltinsAt X.mg P0) (hm : (P, X.env.qual ++ "<lambda>") ∈ L) (hT : Tbn host L H) (hdef : defaultsOf ps X.env = ([], [])) (hfree : ∀ y ∈ sc.names, y.2 = .free → ∃ c, X.env.cells.lookup y.1 = some c)
    (h : ∀ (f c' P' : Addr) (pm ctv : Value) (H1 : Hp) (s' : Shared), Inv X pins σ H1 s' → ExtN H H1 → Tbn host L H1 → (∀ q2, host (X.env.qual ++ "<lambda>") = some q2 → Tbn host ((P', q2) :: L) H1) →
      s'.heap.get? f = some (PySem.W.kla_obj "<lambda>" (X.env.qual ++ "<lambda>") ps e sc (cloFrom X.env.cells sc.names []) pm c' ctv) → H1 f = none → f ∉ frs X.stack → H1 c' = some (CodeN c' (X.env.qual ++ "<lambda>") P') → Q (.ref f) s') :
    wpAny (model X.prog X.w) X.A (eval (.Lambda ps e sc pos) X.env) Q E s := by
  obtain ⟨ν, h1, h2⟩ := hT
  have eP := h1 _ hm
  obtain ⟨tb, hP, ht, ha⟩ := h2 P _ eP
  have hP' : s.heap.get? P = some { cls := .none, data := .fields tb } := I.hok P _ hP
  have gl : s.heap.Ns mainGlobals X.mg := I.mod.glob.keeps I.bk
  have gP : mainGlobals ≠ P := fun z => by
    obtain ⟨o, es, ep, e1, e2, _⟩ := gl
    rw [z, hP'] at e1
    cases e1
    cases e2
  have bP : s.heap.BuiltinsAt X.mg P := by
    obtain ⟨bm, ob, m1, m2, m2', m3, m4, m5, m6, m7⟩ := hB
    have m4' := I.bk _ _ m4
    refine ⟨bm, ob, m1, m2, m2', fun z => ?_, m4', m5, m6, m7⟩
    rw [z, hP'] at m4'
    cases m4'
    cases m5
  have nofr : ∀ f, s.heap.objs.size ≤ f → f ∉ frs X.stack := fun f hf z => by
    obtain ⟨_, o, e1, _⟩ := I.stack.mem z
    exact Nat.lt_irrefl _ (Nat.lt_of_lt_of_le (Heap.lt_size e1) hf)
  refine PySem.W.kla_eval hdef ?_
  cases hc : codeAmong pos tb.toList with
  | none =>
    refine mk_new (mg := X.mg) (closure_ok hfree) I.ok.glob gl hcode hd hP' ht hc gP bP fun c' P' ctv h' tk hx g1 g2 g3 r1 hd2 n1 t1 => ?_
    have I1 := inv_table2 (t' := tk) (q := X.env.qual ++ "<lambda>") (more := #[rawInt pos.line, rawInt pos.col, .ref c']) I hP hx t1 g1 g3 hd2 r1 n1
    have nC : H c' = none := I.hok.fresh g1
    have nQ : H P' = none := I.hok.fresh g3
    have cP : c' ≠ P' := by
      obtain ⟨_, _, _, _, _, _, _, _, _, _, _, _, _, _, _, _, _, _, z⟩ := hd2
      exact z
    generalize hH1 : upd (upd (upd H P (.tbl (tb ++ #[rawInt pos.line, rawInt pos.col, .ref c']))) c' (CodeN c' (X.env.qual ++ "<lambda>") P')) P' (.tbl #[]) = H1 at I1
    have hE : ExtN H H1 := fun b o z n => by
      have n1 : b ≠ P := fun y => n tb (Option.some.inj (z.symm.trans (by rw [y]; exact hP)))
      rw [← hH1, upd_ne (ne_of_none z nQ), upd_ne (ne_of_none z nC), upd_ne n1]
      exact z
    have atC : H1 c' = some (CodeN c' (X.env.qual ++ "<lambda>") P') := by rw [← hH1, upd_ne cP, upd_same]
    have atP : H1 P = some (.tbl (tb ++ #[rawInt pos.line, rawInt pos.col, .ref c'])) := by rw [← hH1, upd_ne (ne_of_none hP nQ), upd_ne (ne_of_none hP nC), upd_same]
    have atQ : H1 P' = some (.tbl #[]) := by rw [← hH1, upd_same]
    have eL : (tb ++ #[rawInt pos.line, rawInt pos.col, .ref c']).toList = tb.toList ++ [rawInt pos.line, rawInt pos.col, .ref c'] := by simp
    -- names that grow
    have grow : ∀ ν' : Addr → Option Str, (∀ b q, ν b = some q → ν' b = some q) → (∀ b q, ν' b = some q → b ≠ P' → ν b = some q) → (∀ q2, host (X.env.qual ++ "<lambda>") = some q2 → ν' P' = some q2) → Nu host ν' H1 := fun ν' up dn at' b q hb => by
      by_cases z : b = P'
      · refine ⟨#[], by rw [z]; exact atQ, trivial, fun p' cv y => ?_⟩
        have y' : codeAmong p' [] = some cv := y
        simp [codeAmong] at y'
      · have hb' := dn b q hb z
        by_cases z2 : b = P
        · rw [z2] at hb' ⊢
          have eq : q = X.env.qual ++ "<lambda>" := Option.some.inj (hb'.symm.trans eP)
          rw [eq]
          refine ⟨_, atP, by rw [eL]; exact PySem.TriplesOk_snoc _ _ _ _ ht, fun p' cv y => ?_⟩
          rw [eL] at y
          rcases among_app _ ht y with y | y
          · obtain ⟨c0, P0, y1, y2, y3⟩ := ha p' cv y
            exact ⟨c0, P0, y1, hE _ _ y2 codeN_ne, fun q2 e2 => up _ _ (y3 q2 e2)⟩
          · exact ⟨c', P', y, atC, at'⟩
        · obtain ⟨tb', a1, a2, a3⟩ := h2 b q hb'
          refine ⟨tb', ?_, a2, fun p' cv y => ?_⟩
          · rw [← hH1, upd_ne (ne_of_none a1 nQ), upd_ne (ne_of_none a1 nC), upd_ne z2]
            exact a1
          · obtain ⟨c0, P0, y1, y2, y3⟩ := a3 p' cv y
            exact ⟨c0, P0, y1, hE _ _ y2 codeN_ne, fun q2 e2 => up _ _ (y3 q2 e2)⟩
    have fresh : ν P' = none := by
      cases z : ν P' with
      | none => rfl
      | some q =>
        obtain ⟨_, y, _⟩ := h2 P' q z
        rw [nQ] at y
        cases y
    have tail : Tbn host L H1 ∧ ∀ q2, host (X.env.qual ++ "<lambda>") = some q2 → Tbn host ((P', q2) :: L) H1 := by
      have g := grow (fun b => if b = P' then host (X.env.qual ++ "<lambda>") else ν b) (fun b q hb => by
        have n : b ≠ P' := fun z => by
          rw [z, fresh] at hb
          cases hb
        show (if b = P' then _ else ν b) = some q
        rw [if_neg n]
        exact hb) (fun b q hb n => by
        have hb : (if b = P' then host (X.env.qual ++ "<lambda>") else ν b) = some q := hb
        rw [if_neg n] at hb
        exact hb) (fun q2 e2 => by
        show (if P' = P' then host (X.env.qual ++ "<lambda>") else ν P') = some q2
        rw [if_pos rfl]
        exact e2)
      have old : ∀ p ∈ L, (if p.1 = P' then host (X.env.qual ++ "<lambda>") else ν p.1) = some p.2 := fun p hp => by
        have n : p.1 ≠ P' := fun z => by
          have := h1 p hp
          rw [z, fresh] at this
          cases this
        rw [if_neg n]
        exact h1 p hp
      refine ⟨⟨_, old, g⟩, fun q2 e2 => ⟨_, fun p hp => ?_, g⟩⟩
      rcases List.mem_cons.mp hp with rfl | hp
      · show (if P' = P' then host (X.env.qual ++ "<lambda>") else ν P') = some q2
        rw [if_pos rfl]
        exact e2
      · exact old p hp
    have I2 : Inv X pins σ H1 { s with heap := h'.push (PySem.W.kla_obj "<lambda>" (X.env.qual ++ "<lambda>") ps e sc (cloFrom X.env.cells sc.names []) ((X.mg "__name__").getD .none) c' ctv), toks := tk } :=
      Inv.kept (s := { s with heap := h', toks := tk }) I1 fun b o z => Heap.get?_push_of_some _ z
    exact h h'.objs.size c' P' _ ctv H1 _ I2 hE tail.1 tail.2 (Heap.get?_push_size _ rfl) (I1.hok.fresh (Nat.le_refl _)) (nofr _ (Nat.le_trans g1 (Nat.le_of_lt g2))) atC
  | some cv =>
    obtain ⟨c', P', e', hco, hho⟩ := ha pos cv hc
    subst e'
    refine PySem.W.kla_makeFunctionHit (c := c) (P := P) (ps := tb) (closure_ok hfree) I.ok.glob gl hcode hd hP' ht hc bP fun ctv h' tk hx hsz => ?_
    have I1 : Inv X pins σ H { s with heap := h', toks := tk } := I.kept hx
    refine h h'.objs.size c' P' _ ctv H _ (Inv.kept (s := { s with heap := h', toks := tk }) I1 fun b o z => Heap.get?_push_of_some _ z) (ExtN.refl H) ⟨ν, h1, h2⟩ (fun q2 e2 => ⟨ν, fun p hp => ?_, h2⟩) (Heap.get?_push_size _ rfl) (I1.hok.fresh (Nat.le_refl _)) (nofr _ hsz) hco
    rcases List.mem_cons.mp hp with rfl | hp
    · exact hho q2 e2
    · exact h1 p hp
end
end Tw
namespace Tw
open PySem PySem.Spec PyProof.Rows L2 He LamX
/-- no cell of X stands among the frames -/
def CellsOut (X : Cx) : Prop := ∀ (pins : List (Addr × Obj)) (σ : L2.St) (H : Hp) (s : Shared), Inv X pins σ H s → ∀ y c, X.env.cells.lookup y = some c → c ∉ frs X.stack
theorem cellsOut_def {X : Cx} (hfn : ∀ y, X.fn y = true) : CellsOut X := fun pins σ H s I y c ey hb => by
  have ge := I.ok.cab y c (hfn y) ey
  rcases List.mem_cons.mp (I.stkSub _ hb) with z | z
  · exact I.cne y c ey z
  · obtain ⟨_, o', ho', _⟩ := I.ok.funs.mem z
    exact Nat.lt_irrefl _ (Nat.lt_of_lt_of_le (Heap.lt_size ho') ge)
/-- a lambda of the parameters xs (none or one), no other name of its own: captured ones and globals -/
structure LamQ (sc scope : Scope) (xs : List Str) : Prop where
  kind : scope.kind = .function
  co : scope.isCoroutine = false
  gen : scope.isGenerator = false
  one : xs.length ≤ 1
  par : ∀ x ∈ xs, scope.names.lookup x = some .local
  own : ∀ y ∈ scope.names, y.2 ≠ .cell
  free : ∀ y ∈ scope.names, y.2 = .free → sc.names.lookup y.1 = some .cell ∨ sc.names.lookup y.1 = some .free
def lamQB (sc scope : Scope) (xs : List Str) : Bool :=
  decide (scope.kind = .function) && (!scope.isCoroutine && (!scope.isGenerator && (decide (xs.length ≤ 1) && ((xs.all fun x => decide (scope.names.lookup x = some .local)) &&
    scope.names.all fun y => !decide (y.2 = .cell) && (!decide (y.2 = .free) || (decide (sc.names.lookup y.1 = some .cell) || decide (sc.names.lookup y.1 = some .free)))))))
theorem lamQ_by {sc scope : Scope} {xs : List Str} (h : lamQB sc scope xs = true) : LamQ sc scope xs := by
  unfold lamQB at h
  obtain ⟨h1, h⟩ := ba h
  obtain ⟨h2, h⟩ := ba h
  obtain ⟨h3, h⟩ := ba h
  obtain ⟨h4, h⟩ := ba h
  obtain ⟨h5, h6⟩ := ba h
  refine ⟨of_decide_eq_true h1, by simpa using h2, by simpa using h3, of_decide_eq_true h4, fun x hx => of_decide_eq_true (List.all_eq_true.mp h5 x hx), fun y hy => ?_, fun y hy e => ?_⟩
  · have := (ba (List.all_eq_true.mp h6 y hy)).1
    simpa using this
  · have := (ba (List.all_eq_true.mp h6 y hy)).2
    rw [decide_eq_true e, Bool.not_true, Bool.false_or, Bool.or_eq_true] at this
    exact this.imp of_decide_eq_true of_decide_eq_true
theorem one_look {xs : List Str} {us : List Value} {y : Str} {u : Value} (h : xs.length ≤ 1) (e1 : xs[0]? = some y) (e2 : us[0]? = some u) : (xs.zip us).reverse.lookup y = some u := by
  cases xs with
  | nil => cases e1
  | cons x r =>
    cases us with
    | nil => cases e2
    | cons w ws =>
      cases e1
      cases e2
      cases r with
      | cons _ _ =>
        simp at h
      | nil => simp
section
variable {X : Cx} {pins : List (Addr × Obj)} {σ : L2.St} {H HZ : Hp} {s s1 : Shared}
theorem clo_sub (hok : X.Ok) {scope : Scope} (L : ∀ y ∈ scope.names, y.2 = .free → X.env.scope.names.lookup y.1 = some .cell ∨ X.env.scope.names.lookup y.1 = some .free) {y : Str} {c : Addr} (e : (cloFrom X.env.cells scope.names []).lookup y = some c) : X.env.cells.lookup y = some c := by
  rcases cloFrom_mem (PySem.mem_of_lookup e) with hm | ⟨h1, h2⟩
  · cases hm
  · obtain ⟨c1, hc⟩ : ∃ c, X.env.cells.lookup y = some c := by
      rcases L _ h1 rfl with k | k
      · exact hok.has _ (.inl k)
      · exact hok.has _ (.inr k)
    have e2 : c = c1 := by
      rw [h2, hc] <;> rfl
    rw [e2]
    exact hc
theorem lam_beginN {A : Around} {outer : List Env} {E : XK} {scope : Scope} {f c' : Addr} {h₁ : Heap} {tk : Nat} {xs : List Str} {cs : List Str} {caps : List Nat} {vs : List V} {us : List Value} (I : Inv X pins σ H s) (hout : CellsOut X) (L : LamQ X.env.scope scope xs)
    (hcs : ∀ (j : Nat) (y : Str) (i : Nat), cs[j]? = some y → caps[j]? = some i → X.N[i]? = some y) (hl : cs.length = caps.length) (hfr : ∀ y ∈ cs, scope.names.lookup y = some .free)
    (e0 : Env0 X.prog X.w X.K X.mg (baseN s.heap H (frs X.stack)) A outer s1 HZ) (hd : A.handled = none) (ru : Vals vs us) (hn : vs.length = xs.length)
    (hns : h₁.Ns s1.heap.objs.size fun y => (xs.zip us).reverse.lookup y) (kp : ∀ b o, s1.heap.get? b = some o → h₁.get? b = some o) :
    Inv (lamC X (baseN s.heap H (frs X.stack)) (xs ++ cs) A outer s1 HZ E scope f c') [] (vs.map some ++ capS σ caps) HZ { s1 with heap := h₁, toks := tk } := by
  have hfree : ∀ y ∈ scope.names, y.2 = .free → ∃ c, X.env.cells.lookup y.1 = some c := fun y hy e => by
    rcases L.free y hy e with k | k
    · exact I.ok.has _ (.inl k)
    · exact I.ok.has _ (.inr k)
  have cm : ∀ {y c}, (cloFrom X.env.cells scope.names []).lookup y = some c → X.env.cells.lookup y = some c := fun {y c} e => clo_sub I.ok L.free e
  have look : ∀ {y}, scope.names.lookup y = some .free → ∃ c, (cloFrom X.env.cells scope.names []).lookup y = some c := fun {y} hl => by
    have hy : (y, NameKind.free) ∈ scope.names := PySem.mem_of_lookup hl
    exact mem_lookup (cloFrom_has (cells := X.env.cells) (acc := []) hy)
  have cellB : ∀ {y : Str} {c : Addr} {v : Option Value}, X.env.cells.lookup y = some c → s.heap.IsCell c v → h₁.IsCell c v ∧ HZ c = none := fun {y c v} ey ⟨o, ho, hdo⟩ => by
    have q := e0.bs c o (baseN_get ho (I.freeC y c ey) (hout pins σ H s I y c ey))
    exact ⟨⟨o, kp _ _ q.1, hdo⟩, q.2⟩
  have noA : ∀ b : Addr, b ∉ (lamC X (baseN s.heap H (frs X.stack)) (xs ++ cs) A outer s1 HZ E scope f c').ex := fun b z => absurd (show b ∈ ([] : List Addr) from z) (by simp)
  refine ⟨⟨e0.mod, L.kind, rfl, rfl, Nat.le_refl _, fun y z c e1 e2 => I.ok.inj y z c (cm e1) (cm e2), fun y hy => ?_, fun y c z _ => ?_, fun _ => hd, Around.frames_deeper e0.frames, .inr ⟨rfl, rfl⟩, fun b z => absurd z (noA b), e0.bs, e0.bsz, fun b _ _ => noA b,
      fun b z => absurd z (noA b), e0.funs, e0.frf⟩,
    rfl, e0.bare, Un.kept kp, ⟨_, hns, fun i y v e1 e2 e3 => ?_⟩, fun y c e => ?_, e0.hok.fresh (Nat.le_refl _), fun y c e => ?_, fun q hq => absurd (show q ∈ ([] : List (Addr × Obj)) ++ [] from hq) (by simp), e0.hok.kept kp, ?_⟩
  · have hy : scope.names.lookup y = some .cell ∨ scope.names.lookup y = some .free := hy
    rcases hy with hy | hy
    · exact absurd rfl (L.own _ (PySem.mem_of_lookup hy))
    · exact look hy
  · have z : false = true := z
    cases z
  · have e1 : (xs ++ cs)[i]? = some y := e1
    have e2 : (vs.map some ++ capS σ caps)[i]? = some (some v) := e2
    by_cases hi : i < xs.length
    · rw [List.getElem?_append_left hi] at e1
      rw [List.getElem?_append_left (by rw [List.length_map, hn]; exact hi), List.getElem?_map] at e2
      have h1 := L.one
      have i0 : i = 0 := by omega
      subst i0
      obtain ⟨u0, q1, q2⟩ := ru.get (i := 0) (x := v) (by
        cases q : vs[0]? with
        | none =>
          rw [q] at e2
          cases e2
        | some w =>
          rw [q] at e2
          cases e2
          rfl)
      refine ⟨u0, q2, .inl ⟨L.par _ (List.mem_of_getElem? e1), ?_⟩⟩
      exact one_look h1 e1 q1
    · rw [List.getElem?_append_right (by omega)] at e1
      rw [List.getElem?_append_right (by rw [List.length_map, hn]; omega), List.length_map, hn] at e2
      generalize i - xs.length = j at e1 e2
      have hj : j < caps.length := by
        rw [← hl]
        exact (List.getElem?_eq_some_iff.mp e1).1
      have ec : caps[j]? = some caps[j] := List.getElem?_eq_getElem hj
      generalize caps[j] = i at ec
      have hN := hcs j y i e1 ec
      have e3 : σ[i]? = some (some v) := by
        unfold capS at e2
        rw [List.getElem?_map, ec] at e2
        have e2 : (σ[i]?).getD none = some v := Option.some.inj e2
        cases q : σ[i]? with
        | none =>
          rw [q] at e2
          cases e2
        | some o =>
          rw [q] at e2
          exact congrArg some e2
      have kf := hfr y (List.mem_of_getElem? e1)
      obtain ⟨m, hn, hlo⟩ := I.loc
      have hvis : Vis X.env.scope y := (L.free _ (PySem.mem_of_lookup kf) rfl).elim (fun k => .inr (.inl k)) (fun k => .inr (.inr k))
      obtain ⟨w', r, q⟩ := hlo i y v hN e3 hvis
      obtain ⟨c2, h2⟩ := look kf
      refine ⟨w', r, .inr ⟨.inr kf, c2, h2, ?_⟩⟩
      have c1 := cm h2
      rcases q with ⟨k', _⟩ | ⟨_, c3, e', z⟩
      · have k' : X.env.scope.names.lookup y = some .local := k'
        rcases L.free _ (PySem.mem_of_lookup kf) rfl with k2 | k2 <;> rw [show X.env.scope.names.lookup y = _ from k2] at k' <;> cases k'
      · rw [c1] at e'
        cases e'
        exact (cellB c1 z).1
  · obtain ⟨w', z⟩ := I.cell y c (cm e)
    exact ⟨w', (cellB (cm e) z).1⟩
  · obtain ⟨v, z⟩ := I.cell y c (cm e)
    exact (cellB (cm e) z).2
  · show (vs.map some ++ capS σ caps).length = (xs ++ cs).length
    unfold capS
    rw [List.length_append, List.length_append, List.length_map, List.length_map, hn, hl]
/-- within the lambda too no cell is a frame -/
theorem cellsOut_lam {A : Around} {outer : List Env} {E : XK} {scope : Scope} {f c' : Addr} {N : List Str} (I : Inv X pins σ H s) (hout : CellsOut X) (hfree : ∀ y ∈ scope.names, y.2 = .free → X.env.scope.names.lookup y.1 = some .cell ∨ X.env.scope.names.lookup y.1 = some .free) :
    CellsOut (lamC X (baseN s.heap H (frs X.stack)) N A outer s1 HZ E scope f c') := fun pins' σ' H' s' J y c ey hb => by
  have e1 := clo_sub I.ok hfree ey
  rcases List.mem_cons.mp (J.stkSub _ hb) with z | z
  · exact J.cne y c ey z
  · have q := (J.ok.funs.mem z).1
    obtain ⟨v, o, ho, _⟩ := I.cell y c e1
    have q2 := baseN_get ho (I.freeC y c e1) (hout pins σ H s I y c e1)
    have q : (baseN s.heap H (frs X.stack)).get? c = none := q
    rw [q2] at q
    cases q
/-- what such a lambda promises -/
def spLamN (n : Nat) (tb : XK → TE) (σc : L2.St) (c' P' : Addr) (q : Str) : Sp := fun vs HZ Q E => vs.length = n ∧ HZ c' = some (CodeN c' q P') ∧ tb E (vs.map some ++ σc) HZ Q
theorem lam_fnN {f c' P' : Addr} {pm ctv : Value} {params : Arguments} {body : Expr} {scope : Scope} {k : Nat} {xs cs : List Str} {caps : List Nat} {tb : XK → TE} (I : Inv X pins σ H s) (hout : CellsOut X) (L : LamQ X.env.scope scope xs)
    (hcs : ∀ (j : Nat) (y : Str) (i : Nat), cs[j]? = some y → caps[j]? = some i → X.N[i]? = some y) (hl : cs.length = caps.length) (hfr : ∀ y ∈ cs, scope.names.lookup y = some .free)
    (hf : s.heap.get? f = some (PySem.W.kla_obj "<lambda>" (X.env.qual ++ "<lambda>") params body scope (cloFrom X.env.cells scope.names []) pm c' ctv)) (hf0 : H f = none) (hf1 : f ∉ frs X.stack)
    (hbind : ∀ us : List Value, us.length = xs.length → bindArgs (PySem.W.kla_fn "<lambda>" (X.env.qual ++ "<lambda>") params body scope (cloFrom X.env.cells scope.names []) pm (.ref c') ctv) ⟨us, []⟩ = pure (xs.zip us))
    (hbody : ∀ (A : Around) (outer : List Env) (s1 : Shared) (H1 : Hp) (E : XK), Room k (A.deeper (lamEnv X scope s1.heap.objs.size f c')) → CellsOut (lamC X (baseN s.heap H (frs X.stack)) (xs ++ cs) A outer s1 H1 E scope f c') → PE (lamC X (baseN s.heap H (frs X.stack)) (xs ++ cs) A outer s1 H1 E scope f c') body (tb E)) :
    FnR X.prog X.w X.K X.mg (baseN s.heap H (frs X.stack)) (L2.CX X.prog X.w) (k + 1) f (spLamN xs.length tb (capS σ caps) c' P' (X.env.qual ++ "<lambda>")) := by
  intro A outer s1 HZ us vs Q E hr e0 r hsp
  obtain ⟨hn, hc, ht⟩ := hsp
  have of1 := (e0.bs f _ (baseN_get hf hf0 hf1)).1
  obtain ⟨⟨_, hrec⟩, _, _⟩ := e0.hok c' _ hc
  have lim : s1.heap.NoLimit := e0.mod.nolimit.keeps fun b o e => (e0.bs b o e).1
  refine PySem.W.kla_callFunE hr.depth of1 rfl L.co L.gen rfl hrec ?_
  rw [hbind us (by rw [← r.length]; exact hn)]
  refine wpAny_pure (wpAny_newFunctionEnv (fun y hy => L.own y hy) (fun y hy => L.par _ (List.of_mem_zip hy).1) (fun h₁ hns hsb => ⟨lim.fresh _ hsb, ?_⟩) L.kind)
  show codeAny _ _ (.expr body (lamEnv X scope s1.heap.objs.size f c')) _ _
  have kp : ∀ b o, s1.heap.get? b = some o → h₁.get? b = some o := fun b o e => hsb.extBut b o (Nat.ne_of_lt (Heap.lt_size e)) (Heap.get?_push_of_some _ e)
  have J : Inv (lamC X (baseN s.heap H (frs X.stack)) (xs ++ cs) A outer s1 HZ E scope f c') [] (vs.map some ++ capS σ caps) HZ { s1 with heap := h₁, toks := s1.toks + (xs.zip us).length } :=
    lam_beginN I hout L hcs hl hfr e0 hr.hd r hn hns kp
  refine PySem.W.kla_codeExpr (wpAny_mono ((hbody _ _ s1 HZ E (hr.deeper _) (cellsOut_lam I hout L.free)).run [] _ _ HZ Q J ht) (fun v s' hq => ?_) fun e s' hq => hq)
  obtain ⟨w', H', J', rv, q⟩ := hq
  exact ⟨w', H', J'.os, J'.bare, J'.base, J'.hok, rv, q⟩
end
end Tw
namespace Tw
open PySem PySem.Spec PyProof.Rows L2 He LamX
/-- base' has all of base -/
def Sub (base base' : Heap) : Prop := ∀ (b : Addr) (o : Obj), base.get? b = some o → base'.get? b = some o
theorem Sub.refl {b : Heap} : Sub b b := fun _ _ e => e
theorem Sub.trans {a b c : Heap} (x : Sub a b) (y : Sub b c) : Sub a c := fun d o e => y d o (x d o e)
/-- the module of built-ins stands in the base -/
def BmIn (base : Heap) (mg : Str → Option Value) : Prop := ∃ P0, base.BuiltinsAt mg P0
theorem BmIn.up {base base' : Heap} {mg : Str → Option Value} (b : BmIn base mg) (s : Sub base base') : BmIn base' mg := by
  obtain ⟨P0, bm, o, m1, m2, m3, m4, m5, m6⟩ := b
  exact ⟨P0, bm, o, m1, m2, m3, m4, s _ _ m5, m6⟩
theorem base_sub {X : Cx} {pins : List (Addr × Obj)} {σ : L2.St} {H : Hp} {s : Shared} (I : Inv X pins σ H s) {b : Addr} {o : Obj} (e : X.base.get? b = some o) : (baseN s.heap H (frs X.stack)).get? b = some o := by
  obtain ⟨h1, h2⟩ := I.env0.bs b o e
  refine baseN_get h1 h2 fun hb => ?_
  have z := (I.env0.funs.mem hb).1
  rw [e] at z
  cases z
/-- a lambda that is made in X, its body read by tb -/
structure LamAt (X : Cx) (L : List (Addr × Str)) (pre : Hp → Prop) (params : Arguments) (body : Expr) (scope : Scope) (k : Nat) (xs cs : List Str) (caps : List Nat) (tb : Addr → Addr → XK → TE) : Prop where
  made : ∃ c P, X.env.code = .ref c ∧ (P, X.env.qual ++ "<lambda>") ∈ L ∧ ∀ pins σ H s, Inv X pins σ H s → pre H → PySem.W.CodeHd s.heap c P
  bm : BmIn X.base X.mg
  out : CellsOut X
  lam : LamQ X.env.scope scope xs
  hcs : ∀ (j : Nat) (y : Str) (i : Nat), cs[j]? = some y → caps[j]? = some i → X.N[i]? = some y
  hl : cs.length = caps.length
  hfr : ∀ y ∈ cs, scope.names.lookup y = some .free
  def_ : defaultsOf params X.env = ([], [])
  bind : ∀ (us : List Value) (q : Str) (cl : List (Str × Addr)) (pm cv ctv : Value), us.length = xs.length → bindArgs (PySem.W.kla_fn "<lambda>" q params body scope cl pm cv ctv) ⟨us, []⟩ = pure (xs.zip us)
  run : ∀ (base : Heap) (A : Around) (outer : List Env) (s1 : Shared) (H1 : Hp) (E : XK) (f c' P' : Addr), Sub X.base base → Room k (A.deeper (lamEnv X scope s1.heap.objs.size f c')) → CellsOut (lamC X base (xs ++ cs) A outer s1 H1 E scope f c') → PE (lamC X base (xs ++ cs) A outer s1 H1 E scope f c') body (tb c' P' E)
/-- what is read of a lambda made and handed on -/
def rLam (P : Program) (w : World) (K : Fg) (mg : Str → Option Value) (host : Str → Option Str) (L : List (Addr × Str)) (pre : Hp → Prop) (q : Str) (k n : Nat) (tb : Addr → Addr → XK → TE) (σc : L2.St) (H : Hp) (go : Addr → Heap → Hp → Prop) : Prop :=
  Tbn host L H ∧ pre H ∧ ∀ (f c' P' : Addr) (H1 : Hp) (base' : Heap), ExtN H H1 → Tbn host L H1 → (∀ q2, host q = some q2 → Tbn host ((P', q2) :: L) H1) → H1 c' = some (CodeN c' q P') → PySem.W.FnAt f base' → FnR P w K mg base' (L2.CX P w) (k + 1) f (spLamN n (tb c' P') σc c' P' q) → go f base' H1
section
variable {X : Cx} {host : Str → Option Str} {L : List (Addr × Str)} {pre : Hp → Prop} {params : Arguments} {body : Expr} {scope : Scope} {k : Nat} {xs cs : List Str} {caps : List Nat} {tb : Addr → Addr → XK → TE}
theorem lam_arg {pins : List (Addr × Obj)} {σ : L2.St} {H : Hp} {s : Shared} {lpos : Pos} {go : Addr → Heap → Hp → Prop} {Q : Value → Shared → Prop} {E : Value → Shared → Prop} (W : LamAt X L pre params body scope k xs cs caps tb) (I : Inv X pins σ H s)
    (h : rLam X.prog X.w X.K X.mg host L pre (X.env.qual ++ "<lambda>") k xs.length tb (capS σ caps) H go)
    (hk : ∀ (f : Addr) (H1 : Hp) (s1 : Shared), Inv X pins σ H1 s1 → go f (baseN s1.heap H1 (frs X.stack)) H1 → Q (.ref f) s1) : wpAny (model X.prog X.w) X.A (eval (.Lambda params body scope lpos) X.env) Q E s := by
  obtain ⟨c, P, hcode, hm, hhd⟩ := W.made
  obtain ⟨P0, hB⟩ := W.bm
  obtain ⟨hT, hp, hgo⟩ := h
  refine lam_mk I hcode (hhd _ _ _ _ I hp) hB hm hT W.def_ (fun y hy e => (W.lam.free y hy e).elim (fun z => I.ok.has _ (.inl z)) fun z => I.ok.has _ (.inr z)) fun f c' P' pm ctv H1 s1 I1 e1 t1 t2 hf hf0 hf1 hc => ?_
  have bm : Sub X.base (baseN s1.heap H1 (frs X.stack)) := fun b o e => base_sub I1 e
  exact hk f H1 s1 I1 (hgo f c' P' H1 _ e1 t1 t2 hc ⟨_, _, _, _, baseN_get hf hf0 hf1⟩ (lam_fnN I1 W.out W.lam W.hcs W.hl W.hfr hf hf0 hf1 (fun us hu => W.bind us _ _ _ _ _ hu) fun A outer s2 H2 E hr ho => W.run _ A outer s2 H2 E f c' P' bm hr ho))
end
section
variable {X : Cx} {host : Str → Option Str} {L : List (Addr × Str)} {pre : Hp → Prop} {params : Arguments} {body : Expr} {scope : Scope} {k : Nat} {xs cs : List Str} {caps : List Nat} {tb : Addr → Addr → XK → TE}
variable {CX : CXT} {kc : Nat} {g C : Addr} {spB : Heap → Sp} {E : L2.St → XK} {x m : Str} {o : Expr} {to : TE} {p apos pos lpos : Pos} {Pr : Program} {wo : World} {K : Fg} {mg : Str → Option Value} {qn : Str}
def EndR (X : Cx) (pins : List (Addr × Obj)) (σ : L2.St) (Q : VK) (r : Result) (s' : Shared) : Prop :=
  match r with | .ok (.ret v) => EP X pins σ Q v s' | .ok _ => False | .error e => X.xe e s'
theorem back {pins : List (Addr × Obj)} {σ : L2.St} {H : Hp} {s : Shared} {Q : VK} (I : Inv X pins σ H s) (hx : ∀ σ, PassesAt CX X σ (E σ)) {r : Result} {s' : Shared} (hq : CR CX X.stack X.prog X.w H s Q (E σ) r s') : EndR X pins σ Q r s' := by
  match r, hq with
  | .error e, hq => exact hx σ pins H s e s' I hq
  | .ok (.ret u), hq => exact I.after hq
/-- g(lambda ..), g a def of the text that is promised over any base -/
theorem pe_lamG (W : LamAt X L pre params body scope k xs cs caps tb) (F : ∀ base' : Heap, Sub X.base base' → FnR X.prog X.w X.K X.mg base' CX kc g (spB base')) (hr : Room kc X.A) (hg : Gl X x) (hm : X.mg x = some (.ref g)) (hkp : PySem.W.keepIn X.K (.ref g) = true) (hx : ∀ σ, PassesAt CX X σ (E σ))
    (hdb : (x == ("__debug__" : Str)) = false := by decide) (he : starEach [Expr.Lambda params body scope lpos] X.env = (false, eval (.Lambda params body scope lpos) X.env) :: starEach [] X.env := by rfl) (hpl : (backTo pos (starEach [] X.env)).any (·.1) = false := by rfl)
    (hP : X.prog = Pr := by rfl) (hW : X.w = wo := by rfl) (hK : X.K = K := by rfl) (hM : X.mg = mg := by rfl) (hQ : X.env.qual ++ "<lambda>" = qn := by rfl) :
    PE X (.Call (.Name x p) [.Lambda params body scope lpos] [] pos) (fun σ H Q => rLam Pr wo K mg host L pre qn k xs.length tb (capS σ caps) H fun f base' H1 => spB base' [.ref f] H1 Q (E σ)) := by
  subst hP hW hK hM hQ
  refine ⟨fun pins s σ H Q I h => wpAny_Call_Name_kw (ld_glob I hg hm ?_ hdb)⟩
  refine PySem.W.callWith_K (first := []) (h₀ := X.base) I.ok.mod.kin hkp (Calls.spliced_cons (lam_arg W I h fun f H1 s1 I1 q => ?_)) he hpl
  exact Calls.spliced_nil ⟨I1.kIn, wpAny_call (codeAny_mono (F _ (fun b o e => base_sub I1 e) X.A X.stack s1 H1 [.ref f] [.ref f] Q (E σ) hr (env0_new I1) (.cons rfl .nil) q) fun r s' hq => back I1 hx hq)⟩
/-- o.m(lambda ..) -/
def tLamM (Pr : Program) (wo : World) (K : Fg) (mg : Str → Option Value) (host : Str → Option Str) (L : List (Addr × Str)) (pre : Hp → Prop) (qn : Str) (k n : Nat) (tb : Addr → Addr → XK → TE) (caps : List Nat) (C : Addr) (m : Str) (spB : Heap → Sp) (E : L2.St → XK) (to : TE) : TE := fun σ H Q =>
  to σ H fun y H0 => ∃ a dx fs, y = .ref a ∧ H0 a = some (.ins C dx fs) ∧ fs.lookup m = none ∧ rLam Pr wo K mg host L pre qn k n tb (capS σ caps) H0 fun f base' H1 => spB base' [.ref a, .ref f] H1 Q (E σ)
theorem pe_lamM {pl : Sem Bool} (hf : PE X o to) (cl : Cls X.K C) (me : Meth X.K C m g) (W : LamAt X L pre params body scope k xs cs caps tb) (F : ∀ base' : Heap, Sub X.base base' → FnR X.prog X.w X.K X.mg base' CX kc g (spB base')) (hr : Room kc X.A) (hx : ∀ σ, PassesAt CX X σ (E σ))
    (he : starEach [Expr.Lambda params body scope lpos] X.env = (false, eval (.Lambda params body scope lpos) X.env) :: starEach [] X.env := by rfl) (hpl : (backTo pos (starEach [] X.env)).any (·.1) = false := by rfl)
    (ht : eval (.Call (.Attribute o m apos) [.Lambda params body scope lpos] [] pos) X.env = (do
      let ov ← eval o X.env
      standAt apos.atName
      let (f, first) ← holding [ov] (getMethod ov m pl)
      callWith pos f first (backTo pos (starEach [Expr.Lambda params body scope lpos] X.env)) (backToKw pos (keywordEach [] X.env))) := by rfl)
    (hP : X.prog = Pr := by rfl) (hW : X.w = wo := by rfl) (hK : X.K = K := by rfl) (hM : X.mg = mg := by rfl) (hQ : X.env.qual ++ "<lambda>" = qn := by rfl) :
    PE X (.Call (.Attribute o m apos) [.Lambda params body scope lpos] [] pos) (tLamM Pr wo K mg host L pre qn k xs.length tb caps C m spB E to) := by
  subst hP hW hK hM hQ
  refine ⟨fun pins s σ H Q I h => ?_⟩
  refine PySem.W.methodCall_KW (pl := pl) (thn (hf.run pins s σ H _ I h) fun u s1 ⟨y, H0, I0, ry, a, dx, fs, ey, ea, l, q⟩ => ?_) ht
  subst ey
  obtain rfl : u = Value.ref a := ry
  refine getmeth_ok I0 ea cl me l ?_
  refine PySem.W.callWith_K (first := [.ref a]) (h₀ := X.base) I0.ok.mod.kin me.kp (Calls.spliced_cons (lam_arg W I0 q fun f H1 s2 I1 q1 => ?_)) he hpl
  exact Calls.spliced_nil ⟨I1.kIn, wpAny_call (codeAny_mono (F _ (fun b o e => base_sub I1 e) X.A X.stack s2 H1 [.ref a, .ref f] [.ref a, .ref f] Q (E σ) hr (env0_new I1) (.cons rfl (.cons rfl .nil)) q1) fun r s' hq => back I1 hx hq)⟩
/-- o.m(k=lambda ..) -/
theorem pe_lamMK {pl : Sem Bool} {fd : FuncData} {ps : List Str} {kw : Str} {kpos : Pos} (hf : PE X o to) (cl : Cls X.K C) (me : Meth X.K C m g) (W : LamAt X L pre params body scope k xs cs caps tb) (F : ∀ base' : Heap, Sub X.base base' → FnOk X.prog X.w X.K X.mg base' CX kc g fd ps (spB base')) (hr : Room kc X.A) (hx : ∀ σ, PassesAt CX X σ (E σ)) (hb : KBn X.K fd ps 1 [kw] (fun us ws => us ++ ws) (fun vs zs => vs ++ zs))
    (hpl : ((backTo pos (starEach [] X.env)).any (·.1) || (backToKw pos (keywordEach [⟨some kw, .Lambda params body scope lpos, kpos⟩] X.env)).any (·.1.isNone)) = false := by rfl)
    (hall : (backToKw pos (keywordEach [⟨some kw, .Lambda params body scope lpos, kpos⟩] X.env)).all (·.1.isSome) = true := by rfl) (hks : (backToKw pos (keywordEach [⟨some kw, .Lambda params body scope lpos, kpos⟩] X.env)).filterMap (·.1) = [kw] := by rfl)
    (ht : eval (.Call (.Attribute o m apos) [] [⟨some kw, .Lambda params body scope lpos, kpos⟩] pos) X.env = (do
      let ov ← eval o X.env
      standAt apos.atName
      let (f, first) ← holding [ov] (getMethod ov m pl)
      callWith pos f first (backTo pos (starEach [] X.env)) (backToKw pos (keywordEach [⟨some kw, .Lambda params body scope lpos, kpos⟩] X.env))) := by rfl)
    (hP : X.prog = Pr := by rfl) (hW : X.w = wo := by rfl) (hK : X.K = K := by rfl) (hM : X.mg = mg := by rfl) (hQ : X.env.qual ++ "<lambda>" = qn := by rfl) :
    PE X (.Call (.Attribute o m apos) [] [⟨some kw, .Lambda params body scope lpos, kpos⟩] pos) (tLamM Pr wo K mg host L pre qn k xs.length tb caps C m spB E to) := by
  subst hP hW hK hM hQ
  refine ⟨fun pins s σ H Q I h => ?_⟩
  refine PySem.W.methodCall_KW (pl := pl) (thn (hf.run pins s σ H _ I h) fun u s1 ⟨y, H0, I0, ry, a, dx, fs, ey, ea, l, q⟩ => ?_) ht
  subst ey
  obtain rfl : u = Value.ref a := ry
  refine getmeth_ok I0 ea cl me l ?_
  refine PySem.W.callWith_KW0 (h₀ := X.base) (first := [.ref a]) I0.ok.mod.kin me.kp hall ?_ hpl
  rw [hks]
  show wpAny _ _ (evalAll [(do let v ← eval (.Lambda params body scope lpos) X.env; standAt pos; pure v)]) _ _ s1
  refine wpAny_evalAll_cons (wpAny_bind (lam_arg W I0 q fun f H1 s2 I1 q1 => wpAny_bind (wpAny_standAt (wpAny_pure (wpAny_evalAll_nil ⟨I1.kIn, ?_⟩)))))
  have l1 : ([.ref a] : List Value).length = 1 := rfl
  refine wpAny_call (codeAny_mono ((F (baseN s2.heap H1 (frs X.stack)) (fun b o e => base_sub I1 e)).run X.A X.stack s2 H1 ⟨[.ref a], [kw].zip [.ref f]⟩ [.ref a, .ref f] [.ref a, .ref f] Q (E σ) hr (env0_new I1) (hb.to s2 [.ref a] [.ref f] I1.kIn rfl rfl) (.cons rfl (.cons rfl .nil)) q1) fun r s' hq => back I1 hx hq)
/-- x(), x a local name that holds a function of the base -/
theorem pe_callF0 {CX : CXT} {k i : Nat} {f : Addr} {sp : Sp} {E : XK} (hN : X.N[i]? = some x) (hv : Vis X.env.scope x) (hf : PySem.W.FnAt f X.base) (F : FnR X.prog X.w X.K X.mg X.base CX k f sp) (hr : Room k X.A) (hx : Passes CX X E)
    (hd : (x == ("__debug__" : Str)) = false := by decide) (hcd : (x == ("__classdict__" : Str)) = false := by decide) :
    PE X (.Call (.Name x p) [] [] pos) (fun σ H Q => σ[i]? = some (some (.ref f)) ∧ sp [] H Q E) := by
  refine ⟨fun pins s σ H Q I h => wpAny_Call_Name_kw (thn ((pe_var (pos := p) (i := i) hN hv hd hcd).run pins s σ H (fun v H1 => v = .ref f ∧ H1 = H) I ⟨.ref f, h.1, rfl, rfl⟩) fun u s1 ⟨v, H1, I1, r1, ev, eH⟩ => ?_)⟩
  subst ev eH
  cases r1
  obtain ⟨oc, od, fd, sl, hfo⟩ := hf
  refine PySem.W.callWith_F0 (first := []) ⟨oc, od, fd, sl, I1.bk _ _ hfo⟩ ?_
  exact wpAny_call (run_fnR F hr hx I1 .nil h.2)
end
end Tw
/-! Tw: sorted(xs, key=lambda x: (e1, e2)), e1 a number, e2 a number or a text, read without a change. -/
namespace Tw
open PySem PySem.Spec PyProof.Rows L2 He LamX
/-- an expression that leaves the heap as it is -/
structure PU (X : Cx) (e : Expr) (t : L2.St → Hp → (V → Prop) → Prop) : Prop where
  run : ∀ (pins : List (Addr × Obj)) (s : Shared) (σ : L2.St) (H : Hp) (Q : V → Prop) (R : Value → Shared → Prop) (E : Value → Shared → Prop), Inv X pins σ H s → t σ H Q → (∀ u tk v, RelV v u → Q v → R u { s with toks := tk }) → wpAny (model X.prog X.w) X.A (eval e X.env) R E s
section
variable {X : Cx} {t t' : L2.St → Hp → (V → Prop) → Prop} {e o : Expr} {p pos : Pos} {x fld : Str} {i : Nat}
theorem pu_var (hN : X.N[i]? = some x) (hv : Vis X.env.scope x) (hd : (x == ("__debug__" : Str)) = false := by decide) (hcd : (x == ("__classdict__" : Str)) = false := by decide) : PU X (.Name x pos) (fun σ _ Q => ∃ v, σ[i]? = some (some v) ∧ Q v) := by
  refine ⟨fun pins s σ H Q R E I h k => ?_⟩
  obtain ⟨v, e, h⟩ := h
  obtain ⟨m, hn, hl⟩ := I.loc
  obtain ⟨u, r, l⟩ := hl i x v hN e hv
  have fin : R u s := k u s.toks v r h
  rcases l with ⟨hk, hm⟩ | ⟨hk | hk, c, hc, hcell⟩
  · exact wpAny_Name (wpAny_loadName_local I.ok.kind hk hn hm fin) hd
  · exact wpAny_Name (wpAny_loadName_cell I.ok.kind hk hc hcell fin) hd
  · exact wpAny_Name (wpAny_loadName_free I.ok.kind hk hc hcell fin hcd) hd
theorem pu_fld {C : Addr} (he : PU X e t) (hb : attributeBase e fld X.env (eval e X.env) = eval e X.env) (cl : Cls X.K C) (na : NoAttr X.K C fld) :
    PU X (.Attribute e fld pos) (fun σ H Q => t σ H fun y => ∃ (a dx : Addr) (fs : List (Str × V)) (v : V), y = .ref a ∧ H a = some (.ins C dx fs) ∧ fs.lookup fld = some v ∧ (∀ b, v ≠ .ref b) ∧ Q v) := by
  refine ⟨fun pins s σ H Q R E I h k => attr_of hb ?_⟩
  refine he.run pins s σ H _ _ E I h fun u tk y ru hq => ?_
  obtain ⟨a, dx, fs, v, rfl, ha, lk, nr, q⟩ := hq
  obtain rfl : u = Value.ref a := ru
  obtain ⟨mA, O, r, _, _, _⟩ := ins_get I.hok ha
  obtain ⟨w, hw, rw'⟩ := RelO.some_of (v := v) (o := mA fld) (by rw [← lk]; exact r fld)
  exact get_map (s := { s with toks := tk }) I.kIn O (cl.get fld) cl.hd na hw (handed_of (v := v) rw') (k w (tk + 1) v rw' q)
theorem pu_ixT {K : Fg} (ha : PU X e t) (hb : PU X o t') (hs : PlainIx o) (hK : X.K = K := by rfl) : PU X (.Subscript e o pos) (fun σ H Q => t σ H fun y => t' σ H fun z => ∃ (b : Addr) (xs : List V) (j : Nat) (v : V), y = .ref b ∧ z = .int j ∧ SqT K H b xs ∧ xs[j]? = some v ∧ Q v) := by
  subst hK
  refine ⟨fun pins s σ H Q R E I h k => Subscript_ ?_⟩
  refine ha.run pins s σ H _ _ E I h fun u tk y ru hq => ?_
  refine hb.run pins _ σ H _ _ E (I.kept (t' := tk) fun _ _ q => q) hq fun w tk2 z rw' hq2 => ?_
  obtain ⟨b, xs, j, v, rfl, rfl, hsq, hv, q⟩ := hq2
  obtain rfl : u = Value.ref b := ru
  obtain ⟨t0, rfl⟩ := rw'
  obtain ⟨its, r, pl, hz⟩ := I.tuple hsq
  obtain ⟨w2, ew, r2⟩ := r.get hv
  have hl := r.length
  have hj : j < xs.length := (List.getElem?_eq_some_iff.mp hv).1
  have hn := line63
  exact subscriptTail_builtinR (s := { s with toks := tk2 }) (x := w2) pl.typeIs slot_tuple_getitem.lookup
    (getItem_tuple (j := j) (Q := fun r s' => r = w2 ∧ R r s') pl (by omega) (by omega) (by rw [List.size_toArray, ← hl]; exact seqIndex_of (by omega) (by omega)) (by simpa using ew) ⟨rfl, k w2 tk2 v r2 q⟩) (hs _ _)
theorem pu_ixL {K : Fg} (ha : PU X e t) (hb : PU X o t') (hs : PlainIx o) (hK : X.K = K := by rfl) : PU X (.Subscript e o pos) (fun σ H Q => t σ H fun y => t' σ H fun z => ∃ (b : Addr) (xs : List V) (j : Nat) (v : V), y = .ref b ∧ z = .int j ∧ SqL K H b xs ∧ xs[j]? = some v ∧ Q v) := by
  subst hK
  refine ⟨fun pins s σ H Q R E I h k => Subscript_ ?_⟩
  refine ha.run pins s σ H _ _ E I h fun u tk y ru hq => ?_
  refine hb.run pins _ σ H _ _ E (I.kept (t' := tk) fun _ _ q => q) hq fun w tk2 z rw' hq2 => ?_
  obtain ⟨b, xs, j, v, rfl, rfl, hsq, hv, q⟩ := hq2
  obtain rfl : u = Value.ref b := ru
  obtain ⟨t0, rfl⟩ := rw'
  obtain ⟨its, r, pl, hz⟩ := I.list hsq
  obtain ⟨w2, ew, r2⟩ := r.get hv
  have hl := r.length
  have hj : j < xs.length := (List.getElem?_eq_some_iff.mp hv).1
  have hn := line63
  exact item_listR (s := { s with toks := tk2 }) pl.isList (by omega) (by omega) (by simpa using ew) (k w2 tk2 v r2 q) (hs _ _)
end
/-- a number or a text, as data -/
inductive ScalD : V → PyData → Prop
  | int (i : Int) : ScalD (.int i) (.int i)
  | str (x : Str) : ScalD (.str x) (.str x)
theorem ScalD.reads {v : V} {d : PyData} (s : ScalD v d) {u : Value} (r : RelV v u) (h : Heap) : Reads h u d [] := by
  cases s with
  | int i =>
    obtain ⟨t, rfl⟩ := r
    exact .int i t
  | str x =>
    obtain ⟨t, rfl⟩ := r
    exact .str x t
def pairD (k : Int × PyData) : PyData := .tuple [.int k.1, k.2]
/-- the key lambda: made in X, its two parts read without a change -/
structure LamK (X : Cx) (L : List (Addr × Str)) (pre : Hp → Prop) (params : Arguments) (e1 e2 : Expr) (scope : Scope) (x : Str) (cs : List Str) (caps : List Nat) (t1 t2 : L2.St → Hp → (V → Prop) → Prop) : Prop where
  made : ∃ c P, X.env.code = .ref c ∧ (P, X.env.qual ++ "<lambda>") ∈ L ∧ ∀ pins σ H s, Inv X pins σ H s → pre H → PySem.W.CodeHd s.heap c P
  bm : BmIn X.base X.mg
  out : CellsOut X
  lam : LamQ X.env.scope scope [x]
  hcs : ∀ (j : Nat) (y : Str) (i : Nat), cs[j]? = some y → caps[j]? = some i → X.N[i]? = some y
  hl : cs.length = caps.length
  hfr : ∀ y ∈ cs, scope.names.lookup y = some .free
  def_ : defaultsOf params X.env = ([], [])
  bind : ∀ (us : List Value) (b : Expr) (q : Str) (cl : List (Str × Addr)) (pm cv ctv : Value), us.length = 1 → bindArgs (PySem.W.kla_fn "<lambda>" q params b scope cl pm cv ctv) ⟨us, []⟩ = pure ([x].zip us)
  plain : ∀ env : Env, starEach [e1, e2] env = [(false, eval e1 env), (false, eval e2 env)]
  run1 : ∀ (base : Heap) (A : Around) (outer : List Env) (s1 : Shared) (H1 : Hp) (E : XK) (f c' : Addr), PU (lamC X base ([x] ++ cs) A outer s1 H1 E scope f c') e1 t1
  run2 : ∀ (base : Heap) (A : Around) (outer : List Env) (s1 : Shared) (H1 : Hp) (E : XK) (f c' : Addr), PU (lamC X base ([x] ++ cs) A outer s1 H1 E scope f c') e2 t2
section
variable {X : Cx} {pins : List (Addr × Obj)} {σ : L2.St} {H : Hp} {s : Shared} {L : List (Addr × Str)} {pre : Hp → Prop} {params : Arguments} {e1 e2 : Expr} {scope : Scope} {x : Str} {cs : List Str} {caps : List Nat} {t1 t2 : L2.St → Hp → (V → Prop) → Prop} {xt : Nat} {tp : Pos}
theorem lam_key {f c' P' : Addr} {pm ctv : Value} {y : V} {yv : Value} {k : Int × PyData} (W : LamK X L pre params e1 e2 scope x cs caps t1 t2) (I : Inv X pins σ H s) (hr : Room 1 X.A)
    (hf : s.heap.get? f = some (PySem.W.kla_obj "<lambda>" (X.env.qual ++ "<lambda>") params (.Tuple [e1, e2] xt tp) scope (cloFrom X.env.cells scope.names []) pm c' ctv)) (hc : H c' = some (CodeN c' (X.env.qual ++ "<lambda>") P')) (ry : RelV y yv)
    (h1 : t1 (some y :: capS σ caps) H fun v => v = .int k.1) (h2 : t2 (some y :: capS σ caps) H fun v => ScalD v k.2) (h : Heap) (tk : Nat) (up : ∀ b o, s.heap.get? b = some o → h.get? b = some o) :
    wpAny (model X.prog X.w) X.A.in1.in1 (call (.ref f) [yv]) (PySem.W.KeyPure (pairD k) { s with heap := h, toks := tk }) (fun _ _ => False) { s with heap := h, toks := tk } := by
  have I' : Inv X pins σ H { s with heap := h, toks := tk } := I.kept up
  obtain ⟨⟨_, hrec⟩, _, _⟩ := I'.hok c' _ hc
  have e0 := env0_new I'
  have e0' : Env0 X.prog X.w X.K X.mg (baseN h H (frs X.stack)) X.A.in1.in1 X.stack { s with heap := h, toks := tk } H := ⟨e0.frames, e0.mod, e0.bs, e0.bsz, e0.funs, e0.frf, e0.hok, e0.bare⟩
  refine wpAny_call (codeAny_mono (R := fun r s' => ∃ v, r = .ok (.ret v) ∧ PySem.W.KeyPure (pairD k) { s with heap := h, toks := tk } v s') ?_ fun r s' hq => ?_)
  · refine PySem.W.kla_callFunE (by have := hr.dp; show X.A.depth < recursionLimit; omega) (up _ _ hf) rfl W.lam.co W.lam.gen rfl hrec ?_
    rw [W.bind [yv] _ _ _ _ _ _ rfl]
    refine wpAny_pure (wpAny_newFunctionEnv (fun y hy => W.lam.own y hy) (fun y hy => W.lam.par _ (List.of_mem_zip hy).1) (fun h₁ hns hsb => ⟨I'.nolimit.fresh _ hsb, ?_⟩) W.lam.kind)
    show codeAny _ _ (.expr _ (lamEnv X scope h.objs.size f c')) _ _
    have kp : ∀ b o, h.get? b = some o → h₁.get? b = some o := fun b o e => hsb.extBut b o (Nat.ne_of_lt (Heap.lt_size e)) (Heap.get?_push_of_some _ e)
    have J : Inv (lamC X (baseN h H (frs X.stack)) ([x] ++ cs) X.A.in1.in1 X.stack { s with heap := h, toks := tk } H E0 scope f c') [] ([y].map some ++ capS σ caps) H { s with heap := h₁, toks := tk + ([x].zip [yv]).length } :=
      lam_beginN I' W.out W.lam W.hcs W.hl W.hfr e0' hr.hd (.cons ry .nil) rfl hns kp
    refine PySem.W.kla_codeExpr (wpAny_Tuple_spliced ?_)
    rw [W.plain]
    refine Calls.spliced_cons ?_
    refine (W.run1 (baseN h H (frs X.stack)) X.A.in1.in1 X.stack { s with heap := h, toks := tk } H E0 f c').run [] _ _ H _ _ _ J h1 fun u1 tk1 v1 r1 q1 => ?_
    refine Calls.spliced_cons ?_
    refine (W.run2 (baseN h H (frs X.stack)) X.A.in1.in1 X.stack { s with heap := h, toks := tk } H E0 f c').run [] _ _ H _ _ _ (J.kept (t' := tk1) fun _ _ q => q) h2 fun u2 tk2 v2 r2 q2 => ?_
    refine Calls.spliced_nil ⟨by show 2 ≤ sizeLine; rw [sizeLine_eq]; omega, ?_⟩
    subst q1
    obtain ⟨w1, rfl⟩ := r1
    refine ⟨_, rfl, _, _, rfl, fun b o e => Heap.get?_push_of_some _ (kp b o e), ?_⟩
    exact .tuple (as := [] ++ ([] ++ [])) (Heap.get?_push_size _ rfl) rfl rfl (.cons (.int _ _) (.cons (q2.reads r2 _) .nil))
  · obtain ⟨v, rfl, hv⟩ := hq
    exact hv
/-- what is read of sorted(e, key=lambda x: (e1, e2)) -/
def tSortedL (K : Fg) (host : Str → Option Str) (L : List (Addr × Str)) (pre : Hp → Prop) (caps : List Nat) (t1 t2 : L2.St → Hp → (V → Prop) → Prop) (ta : TA) : TE := fun σ H Q => ta σ H fun vs H1 => ∃ (l : Addr) (ys : List V) (ks : List (Int × PyData)), vs = [.ref l] ∧ Tbn host L H1 ∧ pre H1 ∧
  (∀ z ∈ ks, ∃ v, ScalD v z.2) ∧ (∀ z ∈ ks, ∀ z' ∈ ks, PySem.W.alike z.2 z'.2 = true) ∧ ∀ H2, ExtN H1 H2 → Tbn host L H2 → SqL K H2 l ys ∧ Paired (fun y k => t1 (some y :: capS σ caps) H2 (fun v => v = .int k.1) ∧ t2 (some y :: capS σ caps) H2 (fun v => ScalD v k.2)) ys ks ∧
  ∀ p, H2 p = none → Q (.ref p) (upd H2 p (.lst (((ys.zip ks).mergeSort (PySem.W.dataLe false fun b => pairD b.2)).map (·.1))))
theorem zip_eachG {R : V → Int × PyData → Prop} : ∀ {ys : List V} {ks : List (Int × PyData)} {its : List Value}, Vals ys its → Paired R ys ks → PySem.W.EachIs (fun (v : Value) (b : V × (Int × PyData)) => RelV b.1 v ∧ R b.1 b.2) its (ys.zip ks)
  | _, _, _, .nil, .nil => .nil
  | _, _, _, .cons r rs, .cons k ks => .cons ⟨r, k⟩ (zip_eachG rs ks)
theorem vals_eachG {R : V → Int × PyData → Prop} : ∀ {out : List Value} {bs : List (V × (Int × PyData))}, PySem.W.EachIs (fun (v : Value) (b : V × (Int × PyData)) => RelV b.1 v ∧ R b.1 b.2) out bs → Vals (bs.map (·.1)) out
  | _, _, .nil => .nil
  | _, _, .cons h t => .cons h.1 (vals_eachG t)
theorem mem_zip_snd {α β : Type} : ∀ {l : List α} {r : List β} {b : α × β}, b ∈ l.zip r → b.2 ∈ r := fun {l r b} h => (List.of_mem_zip (a := b.1) (b := b.2) h).2
theorem depth_pair (k : Int × PyData) {v : V} (s : ScalD v k.2) : (pairD k).depth ≤ 50 := by
  obtain ⟨i, d⟩ := k
  cases s <;> simp [pairD, PyData.depth, PyData.depthAll]
theorem pe_sortedL {host : Str → Option Str} {e : Expr} {ta : TA} {p pos kpos lpos : Pos} (W : LamK X L pre params e1 e2 scope x cs caps t1 t2) (hr : Room 1 X.A) (hg : Gl X "sorted") (hm : X.mg "sorted" = none) (ha : PA X [e] ta)
    (hv : bootBuiltins "sorted" = some (.builtin "sorted")) (he : backTo pos (starEach [e] X.env) = (false, eval e X.env) :: backTo pos (starEach [] X.env) := by rfl) (hpl : (backTo pos (starEach [e] X.env)).any (·.1) = false := by rfl) {K : Fg} (hK : X.K = K := by rfl) :
    PE X (.Call (.Name "sorted" p) [e] [⟨some "key", .Lambda params (.Tuple [e1, e2] xt tp) scope lpos, kpos⟩] pos) (tSortedL K host L pre caps t1 t2 ta) := by
  subst hK
  refine ⟨fun pins s σ H Q I h => ?_⟩
  refine wpAny_Call_Name_kw (ld_blt I hg hm hv ?_ (by decide) (by decide))
  obtain ⟨c, P, hcode, hmL, hhd⟩ := W.made
  obtain ⟨P0, hB⟩ := W.bm
  refine PyProof.Rows.callWith_kw (thn (ha.run pos pins s σ H _ I h) fun us s1 ⟨vs, H1, I1, r1, l, ys, ks, evs, hT, hp, hsc, hal, q1⟩ => ?_) he hpl rfl rfl
  subst evs
  show wpAny _ _ (evalAll [(do let v ← eval (.Lambda params (.Tuple [e1, e2] xt tp) scope lpos) X.env; standAt pos; pure v)]) _ _ s1
  refine wpAny_evalAll_cons (wpAny_bind (lam_mk I1 hcode (hhd _ _ _ _ I1 hp) hB hmL hT W.def_ (fun y hy e => (W.lam.free y hy e).elim (fun z => I1.ok.has _ (.inl z)) fun z => I1.ok.has _ (.inr z)) fun f c' P' pm ctv H2 s2 I2 x1 x2 _ hf hf0 hf1 hc => wpAny_bind (wpAny_standAt (wpAny_pure (wpAny_evalAll_nil ?_)))))
  obtain ⟨hs, hk, q⟩ := q1 H2 x1 x2
  obtain rfl := Vals.ref1 r1
  obtain ⟨its, rv, hl, hz⟩ := I2.list hs
  have ln : ys.length = ks.length := Paired.length hk
  have lz : (ys.zip ks).length = ys.length := by rw [List.length_zip, ← ln, Nat.min_self]
  show wpAny _ _ (call (.builtin "sorted") [.ref l] [(Str.ofString "key", .ref f)]) _ _ s2
  refine PySem.W.sorted_key_data (β := V × (Int × PyData)) (b := false) (R := fun v b => RelV b.1 v ∧ (t1 (some b.1 :: capS σ caps) H2 (fun v => v = .int b.2.1) ∧ t2 (some b.1 :: capS σ caps) H2 (fun v => ScalD v b.2.2))) (vs := its) (bs := ys.zip ks) (fun b => pairD b.2) hl.isList (zip_eachG rv hk)
    (fun d hd d' hd' => ?_) (.inl fun d hd => ?_) (by rw [lz]; exact hz) (fun b hb => ?_) (PyProof.Rows.ksk_s1 _ _) (fun _ => PyProof.Rows.ksk_l1 _ _) (fun _ => PyProof.Rows.ksk_t1 _ _) (fun v b hR _ h tk up => lam_key W I2 hr hf hc hR.1 hR.2.1 hR.2.2 h tk up) fun out c h' tk up hn hD hlen he => ?_
  · obtain ⟨b, hb, rfl⟩ := List.mem_map.mp hd
    obtain ⟨b', hb', rfl⟩ := List.mem_map.mp hd'
    have := hal _ (mem_zip_snd hb) _ (mem_zip_snd hb')
    simp [pairD, PySem.W.alike, PySem.W.alikeAll, this]
  · obtain ⟨b, hb, rfl⟩ := List.mem_map.mp hd
    exact ⟨_, _, rfl⟩
  · obtain ⟨v0, s0⟩ := hsc _ (mem_zip_snd hb)
    have z := depth_pair b.2 s0
    have := hr.un
    show X.A.units + 2 + (pairD b.2).depth < cLine
    omega
  · have hl2 : (((ys.zip ks).mergeSort (PySem.W.dataLe false fun b => pairD b.2)).map (·.1)).length ≤ sizeLine := by
      rw [List.length_map, List.length_mergeSort, lz]
      exact hz
    exact ⟨.ref _, upd H2 (s2.heap.objs.size + 1) (.lst (((ys.zip ks).mergeSort (PySem.W.dataLe false fun b => pairD b.2)).map (·.1))), I2.laid up (Nat.le_succ _) ⟨hl2, out, c, vals_eachG (R := fun y k => t1 (some y :: capS σ caps) H2 (fun v => v = .int k.1) ∧ t2 (some y :: capS σ caps) H2 (fun v => ScalD v k.2)) he, hD⟩, rfl, q _ (I2.hok.fresh (Nat.le_succ _))⟩
end
end Tw
namespace K10
open PySem PySem.Spec PyProof.Rows L2 He Tw
/-! ### sorting by putting in from the right -/
section
variable {β : Type} (le : β → β → Bool)
def insL (a : β) : List β → List β
  | [] => [a]
  | b :: l => if le a b then a :: b :: l else b :: insL a l
def insR (x : β) : List β → List β
  | [] => [x]
  | b :: l => if le b x then b :: insR x l else x :: b :: l
variable {le}
theorem ins_comm (tr : ∀ a b c, le a b = true → le b c = true → le a c = true) (tot : ∀ a b, (le a b || le b a) = true) (a x : β) : ∀ l, insL le a (insR le x l) = insR le x (insL le a l)
  | [] => by
    unfold insL insR
    by_cases h : le a x = true
    · simp [insL, insR, h]
    · simp [insL, insR, h]
  | b :: l => by
    have ih := ins_comm tr tot a x l
    have t1 := tr a b x
    have t2 := tr a x b
    have t3 := tot x b
    by_cases h1 : le b x = true <;> by_cases h2 : le a b = true <;> by_cases h3 : le a x = true <;> by_cases h4 : le x b = true <;> simp_all [insL, insR]
theorem fold_ins (tr : ∀ a b c, le a b = true → le b c = true → le a c = true) (tot : ∀ a b, (le a b || le b a) = true) (a : β) : ∀ l m : List β, l.foldl (fun acc x => insR le x acc) (insL le a m) = insL le a (l.foldl (fun acc x => insR le x acc) m)
  | [], m => rfl
  | x :: l, m => by
    rw [List.foldl_cons, List.foldl_cons, ← ins_comm tr tot, fold_ins tr tot]
theorem insL_at {a : β} : ∀ {l₁ l₂ : List β}, (∀ b ∈ l₁, (!le a b) = true) → (∀ b ∈ l₂, le a b = true) → insL le a (l₁ ++ l₂) = l₁ ++ a :: l₂
  | [], [], _, _ => rfl
  | [], b :: l₂, _, h => by
    show insL le a (b :: l₂) = a :: b :: l₂
    unfold insL
    rw [if_pos (h b List.mem_cons_self)]
  | c :: l₁, l₂, h1, h2 => by
    have hc := h1 c List.mem_cons_self
    show insL le a (c :: (l₁ ++ l₂)) = c :: (l₁ ++ a :: l₂)
    unfold insL
    rw [if_neg (by simpa using hc), insL_at (fun b hb => h1 b (List.mem_cons_of_mem _ hb)) h2]
theorem fold_sort (tr : ∀ a b c, le a b = true → le b c = true → le a c = true) (tot : ∀ a b, (le a b || le b a) = true) : ∀ l : List β, l.foldl (fun acc x => insR le x acc) [] = l.mergeSort le
  | [] => by simp
  | a :: l => by
    obtain ⟨l₁, l₂, e1, e2, h⟩ := List.mergeSort_cons tr tot a l
    have pw := List.pairwise_mergeSort tr tot (a :: l)
    rw [e1] at pw ⊢
    have h2 : ∀ b ∈ l₂, le a b = true := (List.pairwise_cons.mp (List.pairwise_append.mp pw).2.1).1
    rw [List.foldl_cons]
    show l.foldl (fun acc x => insR le x acc) (insL le a []) = _
    rw [fold_ins tr tot, fold_sort tr tot l, e2, insL_at h h2]
theorem insR_at {x : β} : ∀ {A B : List β}, (∀ b ∈ A, le b x = true) → (∀ b ∈ B, le b x = false) → insR le x (A ++ B) = A ++ x :: B
  | [], [], _, _ => rfl
  | [], b :: B, _, h => by
    show insR le x (b :: B) = x :: b :: B
    unfold insR
    rw [if_neg (by rw [h b List.mem_cons_self]; decide)]
  | c :: A, B, h1, h2 => by
    show insR le x (c :: (A ++ B)) = c :: (A ++ x :: B)
    unfold insR
    rw [if_pos (h1 c List.mem_cons_self), insR_at (fun b hb => h1 b (List.mem_cons_of_mem _ hb)) h2]
/-- where le to x is a beginning -/
theorem split_at (tr : ∀ a b c, le a b = true → le b c = true → le a c = true) (x : β) : ∀ {l : List β}, l.Pairwise (fun a b => le a b = true) → ∃ A B, l = A ++ B ∧ (∀ b ∈ A, le b x = true) ∧ ∀ b ∈ B, le b x = false
  | [], _ => ⟨[], [], rfl, (fun _ h => nomatch h), fun _ h => nomatch h⟩
  | b :: l, h => by
    obtain ⟨h1, h2⟩ := List.pairwise_cons.mp h
    by_cases hb : le b x = true
    · obtain ⟨A, B, e, a1, a2⟩ := split_at tr x h2
      refine ⟨b :: A, B, by rw [e]; rfl, fun c hc => ?_, a2⟩
      rcases List.mem_cons.mp hc with rfl | hc
      · exact hb
      · exact a1 c hc
    · refine ⟨[], b :: l, rfl, (fun _ h => nomatch h), fun c hc => ?_⟩
      rcases List.mem_cons.mp hc with rfl | hc
      · simpa using hb
      · cases q : le c x with
        | false => rfl
        | true => exact absurd (tr b c x (h1 c hc) q) hb
end
/-! ### the order of the answers -/
def lea (w : Nat) (x y : Str) : Bool := !ltV (ansV w y) (ansV w x)
theorem lea_total (w : Nat) (x y : Str) : (lea w x y || lea w y x) = true := by
  have key : ltV (ansV w y) (ansV w x) = false ∨ ltV (ansV w x) (ansV w y) = false := by
    rcases ans_two w y x with ⟨a, b, e1, e2⟩ | ⟨a, b, e1, e2⟩
    · rw [e1, e2]
      simp only [ltV, decide_eq_false_iff_not]
      omega
    · rw [e1, e2]
      simp only [ltV, decide_eq_false_iff_not]
      rcases List.le_total a.cps.toList b.cps.toList with h | h
      · exact .inr (List.not_lt.mpr h)
      · exact .inl (List.not_lt.mpr h)
  unfold lea
  rcases key with h | h <;> rw [h] <;> simp
theorem ans_three (i : Nat) (z u v : Str) : (∃ a b c, ansV i z = .int a ∧ ansV i u = .int b ∧ ansV i v = .int c) ∨ ∃ a b c, ansV i z = .str a ∧ ansV i u = .str b ∧ ansV i v = .str c := by
  unfold ansV
  match i with
  | 0 => exact .inr ⟨_, _, _, rfl, rfl, rfl⟩
  | 1 => exact .inl ⟨_, _, _, rfl, rfl, rfl⟩
  | 2 => exact .inl ⟨_, _, _, rfl, rfl, rfl⟩
  | _ + 3 => exact .inr ⟨_, _, _, rfl, rfl, rfl⟩
theorem lea_trans (w : Nat) (x y z : Str) (h1 : lea w x y = true) (h2 : lea w y z = true) : lea w x z = true := by
  have h1 : ltV (ansV w y) (ansV w x) = false := by
    unfold lea at h1
    simpa using h1
  have h2 : ltV (ansV w z) (ansV w y) = false := by
    unfold lea at h2
    simpa using h2
  have key : ltV (ansV w z) (ansV w x) = false := by
    rcases ans_three w x y z with ⟨a, b, c, e1, e2, e3⟩ | ⟨a, b, c, e1, e2, e3⟩
    · rw [e2, e1] at h1
      rw [e3, e2] at h2
      rw [e3, e1]
      simp only [ltV, decide_eq_false_iff_not] at h1 h2 ⊢
      omega
    · rw [e2, e1] at h1
      rw [e3, e2] at h2
      rw [e3, e1]
      simp only [ltV, decide_eq_false_iff_not] at h1 h2 ⊢
      exact List.not_lt.mpr (List.le_trans (List.not_lt.mp h1) (List.not_lt.mp h2))
  unfold lea
  rw [key]
  rfl
/-- the order of the pairs -/
def leP (w : Nat) (a b : Int × Str) : Bool := decide (a.1 < b.1) || (decide (a.1 = b.1) && lea w a.2 b.2)
theorem leP_total (w : Nat) (a b : Int × Str) : (leP w a b || leP w b a) = true := by
  unfold leP
  have t := lea_total w a.2 b.2
  by_cases h1 : a.1 < b.1
  · simp [h1]
  · by_cases h2 : b.1 < a.1
    · simp [h2]
    · have e : a.1 = b.1 := by omega
      rw [Bool.or_eq_true] at t
      rcases t with t | t <;> simp [e, t]
theorem leP_trans (w : Nat) (a b c : Int × Str) (h1 : leP w a b = true) (h2 : leP w b c = true) : leP w a c = true := by
  unfold leP at *
  simp only [Bool.or_eq_true, Bool.and_eq_true, decide_eq_true_eq] at *
  rcases h1 with h1 | ⟨h1, h1'⟩ <;> rcases h2 with h2 | ⟨h2, h2'⟩
  · exact .inl (by omega)
  · exact .inl (by omega)
  · exact .inl (by omega)
  · exact .inr ⟨by omega, lea_trans w _ _ _ h1' h2'⟩
theorem step_le {w : Nat} {q x : Int × Str} (h : x.1 ≤ q.1) : stepB w q x = !leP w x q := by
  unfold stepB leP lea
  by_cases e : x.1 = q.1
  · have n : ¬ x.1 < q.1 := by omega
    simp [e]
  · have n : x.1 < q.1 := by omega
    simp [e, n]
theorem placeN_at {w : Nat} {q : Int × Str} {A B : List (Int × Str)} (ha : ∀ x ∈ A, stepB w q x = false) (hb : ∀ x ∈ B, stepB w q x = true) : ∀ n, n ≤ (A ++ B).length → A.length ≤ n → placeN w q (A ++ B) n = A.length
  | 0, _, h => by
    unfold placeN
    omega
  | n + 1, h1, h2 => by
    rw [List.length_append] at h1
    unfold placeN
    by_cases e : A.length = n + 1
    · have hn : n < A.length := by omega
      rw [List.getElem?_append_left hn, List.getElem?_eq_getElem hn]
      dsimp only
      rw [if_neg (by rw [ha _ (List.getElem_mem hn)]; decide)]
      exact e.symm
    · have hn : A.length ≤ n := by omega
      have hk : n - A.length < B.length := by omega
      rw [List.getElem?_append_right hn, List.getElem?_eq_getElem hk]
      dsimp only
      rw [if_pos (hb _ (List.getElem_mem hk))]
      exact placeN_at ha hb n (by rw [List.length_append]; omega) hn
theorem putP_ins {w : Nat} {q : Int × Str} {l : List (Int × Str)} (hs : l.Pairwise (fun a b => leP w a b = true)) (hq : ∀ x ∈ l, x.1 ≤ q.1) : putP w q l = insR (leP w) q l := by
  obtain ⟨A, B, rfl, a1, a2⟩ := split_at (leP_trans w) q hs
  have hA : ∀ x ∈ A, stepB w q x = false := fun x hx => by
    rw [step_le (hq x (List.mem_append_left _ hx)), a1 x hx]
    rfl
  have hB : ∀ x ∈ B, stepB w q x = true := fun x hx => by
    rw [step_le (hq x (List.mem_append_right _ hx)), a2 x hx]
    rfl
  unfold putP
  rw [placeN_at hA hB _ (Nat.le_refl _) (by rw [List.length_append]; omega), insR_at a1 a2]
  simp
/-- the ranks ascend -/
def AscP (ps : List (Int × Str)) : Prop := ps.Pairwise fun a b => a.1 ≤ b.1
theorem settledL_sort (w : Nat) {ps : List (Int × Str)} (h : AscP ps) : settledL w ps = ps.mergeSort (leP w) := by
  rw [← fold_sort (leP_trans w) (leP_total w)]
  unfold settledL
  -- along the list
  have go : ∀ (l m : List (Int × Str)), (m ++ l).Pairwise (fun a b => a.1 ≤ b.1) → l.foldl (fun acc q => putP w q acc) (m.mergeSort (leP w)) = l.foldl (fun acc x => insR (leP w) x acc) (m.mergeSort (leP w)) := fun l => by
    induction l with
    | nil => intro m _; rfl
    | cons q l ih =>
      intro m hm
      have e : putP w q (m.mergeSort (leP w)) = insR (leP w) q (m.mergeSort (leP w)) := by
        refine putP_ins (List.pairwise_mergeSort (leP_trans w) (leP_total w) m) fun x hx => ?_
        have hx' : x ∈ m := (List.mergeSort_perm m (leP w)).mem_iff.mp hx
        exact (List.pairwise_append.mp hm).2.2 x hx' q List.mem_cons_self
      have e2 : insR (leP w) q (m.mergeSort (leP w)) = (m ++ [q]).mergeSort (leP w) := by
        rw [← fold_sort (leP_trans w) (leP_total w), ← fold_sort (leP_trans w) (leP_total w), List.foldl_append]
        rfl
      rw [List.foldl_cons, List.foldl_cons, e, e2]
      refine ih (m ++ [q]) ?_
      rw [List.append_assoc]
      exact hm
  have := go ps [] h
  simpa using this
theorem up_asc {ps : List (Int × Str)} {n : Nat} (h : Up ps n) (hn : ps.length ≤ n + 1) : AscP ps := by
  have step : ∀ (d i : Nat) (a b : Int × Str), ps[i]? = some a → ps[i + d]? = some b → a.1 ≤ b.1 := fun d => by
    induction d with
    | zero =>
      intro i a b h1 h2
      rw [Nat.add_zero, h1] at h2
      cases h2
      exact Int.le_refl _
    | succ d ih =>
      intro i a b h1 h2
      have hl : i + d + 1 < ps.length := (List.getElem?_eq_some_iff.mp h2).1
      have h3 : ps[i + d]? = some ps[i + d] := List.getElem?_eq_getElem (by omega)
      exact Int.le_trans (ih i a _ h1 h3) (h (i + d) _ b (by omega) h3 h2)
  unfold AscP
  rw [List.pairwise_iff_getElem]
  intro i j hi hj hij
  refine step (j - i) i _ _ (List.getElem?_eq_getElem hi) ?_
  rw [show i + (j - i) = j by omega]
  exact List.getElem?_eq_getElem hj
end K10
/-! Tw: [e for y in xs] where e may raise: the error leaves the comprehension as it leaves the def. -/
namespace Tw
open PySem PySem.Spec PyProof.Rows L2 He
/-- the end of a comprehension that runs in cenv -/
def postX (M : Model) (A : Around) (E : Value → Shared → Prop) (Q : Value → Shared → Prop) (acc : Value) (cenv : Env) (r : Result) (s' : Shared) : Prop :=
  match r with
  | .ok _ => ∃ m, s'.heap.Ns cenv.locals m ∧ ∀ h', Heap.SameBut cenv.locals s'.heap h' → Q acc { s' with heap := h' }
  | .error x => ∃ m, s'.heap.Ns cenv.locals m ∧ ∀ h', Heap.SameBut cenv.locals s'.heap h' → wpAny M A (PySem.passOn "comprehension.variables-let-go" x cenv : Sem Value) (fun _ _ => False) E { s' with heap := h' }
theorem comp_raise {M : Model} {A : Around} {E : Value → Shared → Prop} {s : Shared} {env : Env} {e : Expr} {scope : Scope} {pos : Pos} {newAcc first : Sem Value} {c0 : Comprehension} {cs : List Comprehension} {cl : List (Str × Addr)} {Q : Value → Shared → Prop}
    (hcl : clausesOf e = c0 :: cs) (hs : ∀ x, foldedSetIterable c0.iter env x = pure x) (hclos : closureFor scope env = pure cl) (hk : scope.kind = .function) (hn : ∀ x ∈ scope.names, x.2 = .local → scope.names.lookup x.1 = some .local)
    (h : wpAny M A first (fun x s₁ => wpAny M A (pyIter x) (fun it s₂ => wpAny M A newAcc (fun acc s₃ => wpAny M A (newFunctionEnv scope env.globals cl [] env.qual none .none (some env)) (fun cenv s₄ =>
        codeAny M A (.compStart e 0 it acc { cenv with scope := relabel scope env }) (postX M A E Q acc { cenv with scope := relabel scope env }) s₄) E s₃) E s₂) E s₁) E s) :
    wpAny M A (comprehension e scope env pos newAcc false first none) Q E s := by
  unfold comprehension
  rw [hclos, hcl]
  refine wpAny_bind (wpAny_mono h (fun x s₁ h₁ => ?_) fun _ _ z => z)
  refine wpAny_bind (wpAny_standAt (wpAny_bind (wpAny_of_eq (hs x) (wpAny_bind (wpAny_holding (wpAny_mono h₁ (fun it s₂ h₂ => ?_) fun _ _ z => z))))))
  refine wpAny_standIf (wpAny_bind (wpAny_mono h₂ (fun acc s₃ h₃ => wpAny_bind (wpAny_pure (wpAny_bind (wpAny_mono h₃ (fun cenv s₄ h₄ => ?_) fun _ _ z => z)))) fun _ _ z => z))
  dsimp only
  have hv : ∀ x ∈ (scope.names.filter fun x => (x.2 == .local || x.2 == .cell) && x.1 != (".0" : Str)).reverse, x.2 = .local → Env.kindOf { cenv with scope := relabel scope env } x.1 = some .local := fun x hx z =>
    lookup_relabel_local (hn x (List.mem_filter.mp (List.mem_reverse.mp hx)).1 z)
  refine wpAny_holding (wpAny_bind (wpAny_attempt (wpAny_holding (wpAny_run (codeAny_mono h₄ fun r s' hr => ?_)))))
  cases r with
  | ok f =>
    obtain ⟨m, hm, hr⟩ := hr
    exact wpAny_bind (wpAny_holding (wpAny_comp_letGo (cenv := { cenv with scope := relabel scope env }) hk _ s' m hv hm fun h' m' _ hs' => wpAny_pure (hr h' hs')))
  | error x =>
    obtain ⟨m, hm, hr⟩ := hr
    exact wpAny_bind (wpAny_holding (wpAny_comp_letGo (cenv := { cenv with scope := relabel scope env }) hk _ s' m hv hm fun h' m' _ hs' => wpAny_mono (hr h' hs') (fun _ _ z => z.elim) fun _ _ z => z))
theorem note_frame {e : Value} {a b : Env} (h : a.frame = b.frame) : noteFrame e a = noteFrame e b := by
  unfold noteFrame PySem.frameOf
  rw [h]
theorem frames_at {h h' base base' : Heap} : ∀ {l : List Env}, h.FunFrames base l → (∀ b ∈ frs l, base'.get? b = none ∧ ∀ o, h.get? b = some o → h'.get? b = some o) → h'.FunFrames base' l
  | [], _, _ => trivial
  | env :: rest, ⟨k, ⟨L, o, e1, e2, e3, e4⟩, r⟩, hk => by
    have hL : L ∈ frs (env :: rest) := List.mem_filterMap.mpr ⟨env, List.mem_cons_self, e1⟩
    refine ⟨k, ⟨L, o, e1, (hk L hL).1, (hk L hL).2 o e3, e4⟩, frames_at r fun b hb => hk b ?_⟩
    obtain ⟨e, he, q⟩ := List.mem_filterMap.mp hb
    exact List.mem_filterMap.mpr ⟨e, List.mem_cons_of_mem _ he, q⟩
section
variable {X : Cx} {pins : List (Addr × Obj)} {σ : L2.St} {H : Hp} {W : WX} {E : XK}
/-- a call's error within the block at ce is an error of the def -/
theorem block_exc {ce : Env} {s3 se s' : Shared} {H3 He : Hp} {u : Value} {fp : List Addr} (hs : X.stack = X.env :: X.outer) (hf : X.env.frame = some X.env.locals) (hcf : ce.frame = X.env.frame) (tk : Takes X W) (hW : ∀ cls d σ H, E cls d H → W cls d σ H) (I3 : Inv X pins σ H3 s3)
    (hC : s3.heap.objs.size ≤ ce.locals) (f3 : ∀ b ∈ fp, FpOk X pins H3 b) (hos : se.os = s3.os) (hun : Un (frs X.stack) fp H3 He s3.heap se.heap) (hok : HOk X.prog X.w He se.heap) (hba : AllBare se.gens) (hns : ∃ m, se.heap.Ns ce.locals m) (hfree : He ce.locals = none)
    (c : L2.CX X.prog X.w X.stack He se E u s') (QQ : Value → Shared → Prop) (acc : Value) :
    notedBy (model X.prog X.w) X.A ce (fun e s'' => postX (model X.prog X.w) X.A X.xe QQ acc ce (.error e) s'') u s' := by
  obtain ⟨a, B, H', cls, d, rfl, fl, hokB, ub, na, os, ag, hE⟩ := c
  have hfr : X.A.frames = some (X.env :: X.outer) := by rw [I3.ok.frames, hs]
  obtain ⟨m, oC, es, ep, gC, dC, rC⟩ := hns
  have nfr : ce.locals ∉ frs X.stack := fun hb => by
    obtain ⟨_, o, e, _⟩ := I3.stack.mem hb
    exact Nat.lt_irrefl _ (Nat.lt_of_lt_of_le (Heap.lt_size e) hC)
  have BC : B.get? ce.locals = some oC := ub.keep _ _ gC hfree nfr
  have H'C : H' ce.locals = none := ub.free _ _ gC hfree
  show wpAny _ _ (noteFrame (.ref a) ce) _ _ _
  rw [note_frame hcf]
  rw [hs] at fl
  refine HandSPX.looks_onZ Zc.steady hfr hf fl fun h1 hh1 up1 => ?_
  obtain ⟨k1, k2, k3, oe, vs, T, oT, ts, he, hz, hd, hv1, hnT, hTe, hT, hdT, ht3⟩ := hh1
  have C1 : h1.get? ce.locals = some oC := k1 _ _ BC
  refine ⟨m, ⟨oC, es, ep, C1, dC, rC⟩, fun h2 sb => ?_⟩
  have aC : a ≠ ce.locals := fun z => by
    rw [z, BC] at k2
    cases k2
  have TC : T ≠ ce.locals := fun z => by
    rw [z, BC] at hnT
    cases hnT
  have same : ∀ b, b ≠ ce.locals → h2.get? b = h1.get? b := fun b hb => sb.2 b hb
  -- the ground without the block's names
  obtain ⟨B', b1, b2⟩ := restrict B fun b => !decide (b = ce.locals)
  have inB : ∀ b o, B'.get? b = some o → B.get? b = some o ∧ b ≠ ce.locals := fun b o e => by
    by_cases z : b = ce.locals
    · rw [b2 b (by simp [z])] at e
      cases e
    · rw [b1 b (by simp [z])] at e
      exact ⟨e, z⟩
  have ofB : ∀ b o, b ≠ ce.locals → B.get? b = some o → B'.get? b = some o := fun b o z e => by
    rw [b1 b (by simp [z])]
    exact e
  have noB : ∀ b, B.get? b = none → B'.get? b = none := fun b e => by
    cases q : B'.get? b with
    | none => rfl
    | some o =>
      rw [(inB b o q).1] at e
      cases e
  have nfrs : ∀ b ∈ frs (X.env :: X.outer), b ≠ ce.locals := fun b hb z => nfr (by rw [hs, ← z]; exact hb)
  have ff2 : h2.FunFrames B' (X.env :: X.outer) := frames_at k3 fun b hb => ⟨noB b (k3.mem hb).1, fun o e => (same b (nfrs b hb)).trans e⟩
  have hh2 : HandSPX.HeldZ B' (X.env :: X.outer) a (Zc cls d) X.env.locals h2 := by
    refine ⟨fun b o e => ?_, noB a k2, ff2, oe, vs, T, oT, ts, (same a aC).trans he, hz, hd, hv1, noB T hnT, hTe, (same T TC).trans hT, hdT, ht3⟩
    obtain ⟨e1, n⟩ := inB b o e
    exact (same b n).trans (k1 b o e1)
  -- the state without the error and the block's names
  obtain ⟨G, g1, g2⟩ := restrict s'.heap fun b => (B'.get? b).isSome || decide (b ∈ frs X.stack)
  have st : B.StaysIn s'.heap := fl.1
  have gB : ∀ b o, B'.get? b = some o → G.get? b = some o := fun b o e => by
    rw [g1 b (by simp [e])]
    exact st b o (inB b o e).1
  have gF : ∀ b, b ∈ frs X.stack → G.get? b = s'.heap.get? b := fun b hb => g1 b (by simp [hb])
  have og : ∀ b o, G.get? b = some o → s'.heap.get? b = some o ∧ ((B'.get? b).isSome = true ∨ b ∈ frs X.stack) := fun b o e => by
    cases q : ((B'.get? b).isSome || decide (b ∈ frs X.stack)) with
    | false =>
      rw [g2 b q] at e
      cases e
    | true =>
      rw [g1 b q] at e
      exact ⟨e, by simpa [Bool.or_eq_true] using q⟩
  have ogC : ∀ b o, G.get? b = some o → b ≠ ce.locals := fun b o e => by
    rcases (og b o e).2 with h | h
    · obtain ⟨o', q⟩ := Option.isSome_iff_exists.mp h
      exact (inB b o' q).2
    · exact fun z => nfr (z ▸ h)
  have old : ∀ b o, s3.heap.get? b = some o → b ≠ ce.locals := fun b o e => Nat.ne_of_lt (Nat.lt_of_lt_of_le (Heap.lt_size e) hC)
  have nfp : ∀ b ∈ fp, b ∉ frs X.stack := fun b hb z => (List.mem_cons.mp (I3.stkSub b z)).elim (f3 b hb).2.1 (f3 b hb).2.2.1
  have unF : Un (frs X.stack) fp H3 H' s3.heap G := by
    refine ⟨fun b o e n nf nx => ?_, fun b o e n hb nx => ?_, fun b o e n nx => ?_, fun b o e nx => ?_, fun b xs e => ub.tups b xs (hun.tups b xs e), fun b o u e => ub.frzs b o u (hun.frzs b o u e), fun b ps e => ?_⟩
    · exact gB b o (ofB b o (old b o e) (ub.keep b o (hun.keep b o e n nf nx) (hun.free b o e n nx) nf))
    · obtain ⟨sl, e1⟩ := hun.slot b o e n hb nx
      obtain ⟨sl2, e2⟩ := ub.slot b _ e1 hb
      exact ⟨sl2, by rw [gF b hb]; exact e2⟩
    · obtain ⟨o', e1⟩ := hun.there b o e nx
      exact ub.free b o' e1 (hun.free b o e n nx)
    · obtain ⟨o', e1⟩ := hun.there b o e nx
      by_cases hb : b ∈ frs X.stack
      · obtain ⟨sl, q⟩ := ub.slot b o' e1 hb
        exact ⟨_, by rw [gF b hb]; exact q⟩
      · obtain ⟨o2, q⟩ := ub.there b o' e1 hb
        exact ⟨o2, gB b o2 (ofB b o2 (old b o e) q)⟩
    · obtain ⟨m1, e1⟩ := hun.tbls b ps e
      obtain ⟨m2, e2⟩ := ub.tbls b _ e1
      exact ⟨m1 ++ m2, by rw [e2, Array.append_assoc]⟩
  have hokG : HOk X.prog X.w H' G := fun b o e => by
    have x := hokB b o e
    have nC : ∀ c, (c = b ∨ H' c = some (.own b)) → c ≠ ce.locals := fun c hc z => by
      rcases hc with hc | hc
      · rw [← hc, z, H'C] at e
        cases e
      · rw [z, H'C] at hc
        cases hc
    exact x.stay (fun c v hc q => gB c v (ofB c v (nC c hc) q)) (fun _ q => q) fun _ _ q => q
  have IG : Inv X pins σ H' { s3 with heap := G, gens := s'.gens, drawn := s'.drawn, toks := s'.toks } :=
    I3.call (ch := fp) unF hokG ag fun b hb => ⟨(f3 b hb).2.2.2.1, (f3 b hb).2.1, (f3 b hb).2.2.2.2.1, (f3 b hb).2.2.2.2.2⟩
  unfold PySem.passOn
  refine wpAny_bind (wpAny_field (s := { s' with heap := h2 }) ((same a aC).trans he) hd hv1 ?_)
  rw [if_neg (show ¬ ((Value.ref T == Value.none) = true) from by simp)]
  have goOn : wpAny (model X.prog X.w) X.A (setFlight (.ref a) ce.frame) (fun _ s7 => wpAny (model X.prog X.w) X.A (throw (.ref a) : Sem Value) (fun _ _ => False) X.xe s7) X.xe { s' with heap := h2 } := by
    rw [hcf, hf]
    refine HandSPX.setFlight_onZ (s := { s' with heap := h2 }) hh2 fun h7 hh7 up7 => wpAny_throw (tk _ _ ⟨a, B', _, pins, σ, H', cls, d, rfl, IG, fun b o e hb => ?_, fun b o e nf => ?_, .inr (.inr ?_), na, os.trans hos, ag, hW _ _ _ _ hE⟩)
    · rcases (og b o e).2 with h | h
      · obtain ⟨o', q⟩ := Option.isSome_iff_exists.mp h
        have z := st b o' (inB b o' q).1
        rw [(og b o e).1] at z
        cases z
        exact q
      · exact absurd h hb
    · have nC := ogC b o e
      obtain ⟨sl, q⟩ := up1 b o (og b o e).1 nf
      obtain ⟨sl2, q2⟩ := up7 b { o with slots := sl } ((same b nC).trans q) (fun vs z => nf vs z)
      exact ⟨sl2, q2⟩
    · rw [hs]
      exact hh7
  first
    | exact wpAny_bind (wpAny_pure (wpAny_bind goOn))
    | exact wpAny_bind goOn
/-- [elt for target in iter], elt may raise what E takes -/
theorem pe_lcX {elt tg iter : Expr} {scope : Scope} {own : List (Str × Nat)} {pos : Pos} {wi : TI} {g : TG} {te : TE} (hs : X.stack = X.env :: X.outer) (hf : X.env.frame = some X.env.locals) (tk : Takes X W) (hW : ∀ cls d σ H, E cls d H → W cls d σ H) (hc : X.calm = true) (hN : X.N.Nodup) (hi : PI X tg iter wi) (ok : BlkOk X.N X.env.scope scope own)
    (hg : ∀ (s : Shared) (H : Hp) (C : Addr) (cl : List (Str × Addr)) (fp : List Addr), PG (X.blk s H scope (compEnvC scope cl C X.env) fp) tg g)
    (he : ∀ (s : Shared) (H : Hp) (C : Addr) (cl : List (Str × Addr)) (fp : List Addr) (xe : Value → Shared → Prop), L2.Passes (L2.CX X.prog X.w) ((X.blk s H scope (compEnvC scope cl C X.env) fp).wish xe) E → PE ((X.blk s H scope (compEnvC scope cl C X.env) fp).wish xe) elt te)
    (hfs : ∀ x, foldedSetIterable iter X.env x = pure x := by intro _; rfl) :
    PE X (.ListComp elt [⟨tg, iter, [], 0⟩] scope pos) (tLc wi g tYes te (own.map (·.2))) := by
  refine ⟨fun pins s σ H Q I h => ?_⟩
  rw [eval_ListComp]
  have hfree : ∀ y ∈ scope.names, y.2 = .free → ∃ c, X.env.cells.lookup y.1 = some c := fun y hy e => (ok.free y hy e).elim (fun k => I.ok.has _ (.inl k)) fun k => I.ok.has _ (.inr k)
  refine comp_raise rfl hfs (closure_ok hfree) ok.kind (fun y hy e => by rw [ok.uniq y hy, e]) (thn (hi.run pins s σ H _ I h) fun xv s1 hx => thn hx fun itv s2 h2 => ?_)
  obtain ⟨it, fp, tn, J, H2, e, I2, T, st2, f2, q⟩ := h2
  subst e
  refine wpAny_newObj_type (newEnv_comp ?_) (by show 0 ≤ sizeLine; decide)
  generalize hD : s2.heap.objs.size = D
  obtain ⟨Wt, ⟨m0, w0⟩, turn⟩ := q D (I2.hok.fresh (Nat.le_of_eq hD))
  generalize hs3 : ({ s2 with heap := s2.heap.push { cls := .type "list", data := .seq ([] : List Value).toArray } } : Shared) = s3
  have h3 : s3.heap = s2.heap.push { cls := .type "list", data := .seq ([] : List Value).toArray } := by rw [← hs3]
  have I3 : Inv X pins σ (upd H2 D (.lst [])) s3 := by
    rw [← hs3]
    exact I2.laid (t' := s2.toks) (fun b o e => Heap.get?_push_of_some _ e) (Nat.le_of_eq hD) ⟨Nat.zero_le _, [], 0, .nil, by rw [← hD]; exact Heap.get?_push_size _ rfl⟩
  have f3 : ∀ b ∈ fp, FpOk X pins (upd H2 D (.lst [])) b ∧ b < s3.heap.objs.size := fun b hb => by
    obtain ⟨o, e, _⟩ := T.obj _ _ st2 b hb
    have hlt : b < s2.heap.objs.size := Heap.lt_size e
    refine ⟨⟨?_, (f2 b hb).2⟩, by rw [h3, Heap.size_push]; exact Nat.lt_succ_of_lt hlt⟩
    rw [upd_ne (by rw [← hD]; exact Nat.ne_of_lt hlt)]
    exact (f2 b hb).1
  have st3 : tn 0 s3.heap := T.keep _ _ _ st2 fun b _ o e => by rw [h3]; exact Heap.get?_push_of_some _ e
  have I4 := block_start I3 ok hN f3
  generalize hcl : cellsFrom (s3.heap.objs.size + 1) scope.names (cloFrom X.env.cells scope.names []) = cl at I4
  have nfp : ∀ b ∈ fp, (upd H2 D (.lst [])) b = none := fun b hb => (f3 b hb).1.1
  have pg := hg s3 (upd H2 D (.lst [])) s3.heap.objs.size cl fp
  show codeAny _ _ (.compStart (.ListComp elt [⟨tg, iter, [], 0⟩] scope pos) 0 (.ref it) (.ref D) (compEnvC scope cl s3.heap.objs.size X.env)) (postX (model X.prog X.w) X.A X.xe (EP X pins σ Q) (.ref D) (compEnvC scope cl s3.heap.objs.size X.env)) { s3 with heap := pushCells (s3.heap.push { cls := .type "dict", data := .dict #[] }) scope.names }
  have pe0 := he s3 (upd H2 D (.lst [])) s3.heap.objs.size cl fp
  have cL : (compEnvC scope cl s3.heap.objs.size X.env).locals = s3.heap.objs.size := rfl
  have cF : (compEnvC scope cl s3.heap.objs.size X.env).frame = X.env.frame := rfl
  generalize compEnvC scope cl s3.heap.objs.size X.env = ce at I4 pg pe0 cL cF ⊢
  generalize hH3 : upd H2 D (.lst []) = H3 at I3 I4 pg pe0 w0 nfp f3
  -- what leaves the block by an error
  have out : ∀ {pins' : List (Addr × Obj)} {σ' : L2.St} {H' : Hp} {s' : Shared} {e : Value} {s'' : Shared}, Inv (X.blk s3 H3 scope ce fp) pins' σ' H' s' → L2.CX X.prog X.w X.stack H' s' E e s'' →
      notedBy (model X.prog X.w) X.A ce (fun e s'' => postX (model X.prog X.w) X.A X.xe (EP X pins σ Q) (.ref D) ce (.error e) s'') e s'' := fun {pins' σ' H' s' e s''} I' c => by
    obtain ⟨m, hn, _⟩ := I'.loc
    exact block_exc hs hf cF tk hW I3 (Nat.le_of_eq cL.symm) (fun b hb => (f3 b hb).1) I'.os I'.base I'.hok I'.bare ⟨m, hn⟩ I'.free c _ _
  have pe := pe0 (notedBy (model X.prog X.w) X.A ce fun e s'' => postX (model X.prog X.w) X.A X.xe (EP X pins σ Q) (.ref D) ce (.error e) s'') fun pins' σ' H' s' e s'' I' c => out I'.unwish c
  generalize hs4 : ({ s3 with heap := pushCells (s3.heap.push { cls := .type "dict", data := .dict #[] }) scope.names } : Shared) = s4 at I4 ⊢
  have st4 : tn 0 s4.heap := T.keep _ _ _ st3 fun b _ o e => by rw [← hs4]; exact pushCells_keeps _ _ _ _ (Heap.get?_push_of_some _ e)
  have stat : ∀ {σ' : L2.St} {H' : Hp} {s' : Shared}, Inv (X.blk s3 H3 scope ce fp) [] σ' H' s' → (∀ b ∈ fp, H' b = none) → ∀ b ∈ fp, FpOk (X.blk s3 H3 scope ce fp) [] H' b := fun {σ' H' s'} I' hn b hb =>
    ⟨hn b hb, (I'.ok.exf b hb).1, I'.ok.exfs b hb, .inl hb, fun x c e => (I'.ok.exf b hb).2 x c e, fun p hp => absurd (show p ∈ ([] : List (Addr × Obj)) ++ [] from hp) (by simp)⟩
  have loop : codeAny (model X.prog X.w) X.A (.compLoop (.ListComp elt [⟨tg, iter, [], 0⟩] scope pos) 0 (.ref it) (.ref D) ce) (postX (model X.prog X.w) X.A X.xe (EP X pins σ Q) (.ref D) ce) s4 := by
    refine compLoop_any (fun n s' => ∃ i H', Inv (X.blk s3 H3 scope ce fp) [] (wipe σ (own.map (·.2))) H' s' ∧ tn i s'.heap ∧ (∀ b ∈ fp, H' b = none) ∧ Wt i n H') ?_ m0 ⟨0, H3, I4, st4, nfp, w0⟩
    rintro n s5 ⟨i, H5, I5, st5, n5, w5⟩
    rcases turn i n H5 w5 with ⟨stop, qq⟩ | ⟨go, Nx, hNx, step⟩
    · refine thnF (T.done (X.blk s3 H3 scope ce fp) rfl rfl rfl hc i [] s5 _ H5 (fun _ _ => False) I5 (stat I5 n5) st5 stop) fun r s6 ⟨hr, I6⟩ => ?_
      subst hr
      have I7 : Inv X pins σ H5 s6 := I3.call' (ch := fp) I6.os I6.base I6.hok I6.bare fun b hb => ⟨(f3 b hb).1.2.2.2.1, (f3 b hb).1.2.1, (f3 b hb).1.2.2.2.2.1, (f3 b hb).1.2.2.2.2.2⟩
      obtain ⟨m, hn, _⟩ := I6.loc
      refine ⟨m, hn, fun h' sb => ?_⟩
      have nC : H5 s3.heap.objs.size = none := by
        rw [← cL]
        exact I6.free
      obtain ⟨f0, f1, f2', f3', f4, f5⟩ := I3.fpOk (Nat.le_refl _) nC
      rw [cL] at sb
      exact ⟨.ref D, H5, I7.turned (t' := s6.toks) (fun b o hb e => (sb.2 b hb).trans e) f0 f1 f3' f4 f5, rfl, qq⟩
    · refine thnF (T.item (X.blk s3 H3 scope ce fp) rfl rfl rfl hc i [] s5 _ H5 (fun _ _ => False) I5 (stat I5 n5) st5 go) fun r s6 ⟨u, hr, h6⟩ => ?_
      subst hr
      refine thnF h6 fun _ s7 ⟨x, H7, I7, r7, y7, st7, n7⟩ => ?_
      have I7' := I7.pinned (stat I7 n7) (T.obj _ _ st7)
      refine thnF (pg.run _ s7 _ H7 x u _ I7' r7 (step x H7 y7)) fun _ s8 ⟨σ8, H8, I8, hw8, q8⟩ => ?_
      refine wpAny_tests_nil ?_
      have q8 : te σ8 H8 (fun y H4 => ∃ acc, H4 D = some (.lst acc) ∧ acc.length < sizeLine ∧ Nx (upd H4 D (.lst (acc ++ [y])))) := q8
      refine wpAny_mono (pe.run _ s8 σ8 H8 _ (I8.wish _) q8) (fun z s10 hz => ?_) fun e s10 hx => hx
      obtain ⟨yv, H10, I10, r10, acc, hD10, hz10, nx⟩ := hz
      refine app_ok (X := X.blk s3 H3 scope ce fp) I10.unwish hD10 hz10 r10 fun s11 I11 => ?_
      obtain ⟨m', hm, w'⟩ := hNx _ nx
      have pin' : ∀ b ∈ fp, ∀ o, s7.heap.get? b = some o → s11.heap.get? b = some o ∧ (upd H10 D (.lst (acc ++ [yv]))) b = none := fun b hb o e =>
        let z := I11.pin (b, o) (List.mem_append_right _ (List.mem_append_right _ (mem_pinsAt hb e)))
        ⟨z.1, z.2.1⟩
      have hl : (wipe σ (own.map (·.2))).length = σ8.length := by rw [← hw8, wipe_length]
      refine ⟨m', hm, i + 1, _, (I11.unpinned (pins := [])).weak hl (fun j v e => ?_), T.keep _ _ _ st7 fun b hb o e => (pin' b hb o e).1, fun b hb => ?_, w'⟩
      · rw [← hw8] at e
        exact (wipe_some e).1
      · obtain ⟨o, e, _⟩ := T.obj _ _ st7 b hb
        exact (pin' b hb o e).2
  exact codeAny_compStart_list loop (T.self X.A 0 _ _ _ st4 loop)
end
end Tw
/-! Tw: range(n) as a value, list of it. -/
namespace Tw
open PySem PySem.Spec PyProof.Rows L2 He
section
variable {X : Cx}
theorem cr_range1 : CallR X (.type "range") (fun vs H Q => ∃ j, vs = [V.int j] ∧ ∀ p, H p = none → Q (.ref p) (upd H p (.rng 0 j))) := by
  intro pins s σ H vs us Q I r h
  obtain ⟨j, rfl, q⟩ := h
  obtain ⟨u, rfl, rj⟩ := vals1 r
  obtain ⟨t, rfl⟩ := rj
  refine PySem.call_range_1 ⟨.ref s.heap.objs.size, upd H s.heap.objs.size (.rng 0 j), I.laid (t' := s.toks + 1 + 1) (fun b o e => Heap.get?_push_of_some _ e) (Nat.le_refl _) ?_, rfl, q _ (I.hok.fresh (Nat.le_refl _))⟩
  exact ⟨s.toks, t, s.toks + 1, Heap.get?_push_size _ rfl⟩
def upToV (n : Nat) : List V := (List.range n).map fun k : Nat => V.int (k : Int)
theorem cr_listRng (hc : X.calm = true) : CallR X (.type "list") (fun vs H Q => ∃ (p : Addr) (n : Nat), vs = [V.ref p] ∧ H p = some (.rng 0 (n : Int)) ∧ n ≤ 1000000 ∧ ∀ l, H l = none → Q (.ref l) (upd H l (.lst (upToV n)))) := by
  intro pins s σ H vs us Q I r h
  obtain ⟨p, n, rfl, hp, hn, q⟩ := h
  obtain rfl := Vals.ref1 r
  obtain ⟨t, u, v, hr⟩ := I.hok p _ hp
  have e1 : Builtin.Range.rangeSize 0 (n : Int) 1 = (n : Int) := by
    rw [rangeSize_one]
    split <;> omega
  refine PySem.call_list_range (n := n) (I.ok.hd hc) hr (small_one (by omega) (by omega) (by omega) (by omega)) e1 (by omega) fun h' tk acc c' up hl hacc => ?_
  refine ⟨.ref s.heap.objs.size, upd H s.heap.objs.size (.lst (upToV n)), I.laid up (Nat.le_refl _) ⟨?_, acc.toList, c', ?_, by simpa using hl⟩, rfl, q _ (I.hok.fresh (Nat.le_refl _))⟩
  · unfold upToV
    rw [List.length_map, List.length_range, sizeLine_eq]
    omega
  · -- item by item
    have go : ∀ (k : Nat) (us : List Value), us.length + k = n → (∀ j v, us[j]? = some v → ∃ t, v = Value.int ((k + j : Nat) : Int) t) → Vals ((List.range' k us.length).map fun k : Nat => V.int (k : Int)) us := fun k us => by
      induction us generalizing k with
      | nil => intro _ _; exact .nil
      | cons w ws ih =>
        intro hl hw
        rw [List.length_cons, List.range'_succ, List.map_cons]
        refine .cons ?_ (ih (k + 1) (by rw [List.length_cons] at hl; omega) fun j v e => ?_)
        · obtain ⟨t, e⟩ := hw 0 w rfl
          exact ⟨t, by rw [e, Nat.add_zero]⟩
        · obtain ⟨t, e'⟩ := hw (j + 1) v (by simpa using e)
          exact ⟨t, by rw [e', show k + (j + 1) = k + 1 + j by omega]⟩
    have hsz : acc.toList.length = n := by rw [Array.length_toList]; exact hacc.1
    have := go 0 acc.toList (by omega) fun j v e => by
      obtain ⟨t, e'⟩ := hacc.2 j v (by simpa using e)
      exact ⟨t, by rw [e']; simp⟩
    unfold upToV
    rw [List.range_eq_range', ← hsz]
    exact this
end
end Tw
/-! Tw: C(*e); d.update(e), both tracked. -/
namespace Tw
open PySem PySem.Spec PyProof PyProof.Rows L2 He
theorem u1 {k : Nat} {A : Around} (r : Room k A) : A.units + 1 < cLine := by
  have := r.un
  omega
section
variable {X : Cx} {CX : CXT} {k : Nat} {f C : Addr} {sp : Sp} {E : XK} {x : Str} {e : Expr} {te : TE} {p sp_ pos : Pos}
/-- C(*e) by a positional promise of its __init__ -/
theorem pe_makeSt (M : Mk X.K C f) (F : FnR X.prog X.w X.K X.mg X.base CX k f sp) (hr : Room (k + 1) X.A) (hg : Gl X x) (hm : X.mg x = some (.ref C)) (hx : Passes CX X E) (he : PE X e te) (hdb : (x == ("__debug__" : Str)) = false := by decide)
    (hst : starEach [.Starred e sp_] X.env = [(true, eval e X.env)] := by rfl) :
    PE X (.Call (.Name x p) [.Starred e sp_] [] pos) (fun σ H Q => te σ H fun y H1 => ∃ a xs, y = V.ref a ∧ (SqT X.K H1 a xs ∨ SqL X.K H1 a xs) ∧ ∀ x dx, H1 x = Option.none → H1 dx = Option.none → dx ≠ x →
      sp (V.ref x :: xs) (upd (upd H1 dx (.own x)) x (.ins C dx [])) (fun v H2 => v = .non ∧ Q (.ref x) H2) E) := by
  refine ⟨fun pins s σ H Q I h => ?_⟩
  refine wpAny_Call_Name_kw (ld_glob I hg hm ?_ hdb)
  refine PySem.W.callWith_S (h₀ := X.base) I.ok.mod.kin M.kp (thn (he.run pins s σ H _ I h) fun v s1 ⟨y, H1, I1, ry, a, xs, ey, hxs, q⟩ => ?_) hst
  subst ey
  obtain rfl : v = Value.ref a := ry
  exact StX.star_any I1 hxs fun us s2 I2 rv => ⟨I2.kIn, StX.run_makeR M F hr hx I2 rv q⟩
end
section
variable {X : Cx} {o e : Expr} {apos cpos : Pos} {td ty : TE} {pins : List (Addr × Obj)} {σ : L2.St} {H : Hp} {s : Shared} {a b : Addr} {kvs more : List (Key × V)} {A : Around} {E : Value → Shared → Prop}
theorem d_update {Q : Value → Shared → Prop} (I : Inv X pins σ H s) (e : H a = some (.dK kvs)) (e2 : H b = some (.dK more)) (hn : a ≠ b) (hz : kvs.length + more.length ≤ sizeLine) (h : ∀ s', Inv X pins σ (upd H a (.dK (mergeK kvs more))) s' → Q .none s') :
    wpAny (model X.prog X.w) A (call (.builtin "dict.update") [.ref a, .ref b]) Q E s := by
  obtain ⟨z, hd, vs, rel, dd⟩ := dk_of I.hok e
  obtain ⟨z2, hd2, vs2, rel2, dd2⟩ := dk_of I.hok e2
  refine call_meetsIn PySem.F.slot_dict_update dd.typeIs PySem.F.entry_dict_update (PySem.F.args_dict_update_2 _ _) (meets_dict_update (mixKind X.prog X.w) a b hn hd2) ⟨vs, vs2, dd, dd2, by rw [← rel.length, ← rel2.length]; exact hz, fun h' dd' _ hs => h _ ?_⟩
  have he : ∃ q, h'.get? a = some q := let ⟨q, _, _, hq, _⟩ := dd'; ⟨q, hq⟩
  exact d_write (t' := s.toks) I (by rw [e]; exact True.intro) hs he (dk_new (Nat.le_trans (length_mergeK _ _) hz) hd (KV.merge rel2 rel) dd')
/-- d.update(e) -/
def tDUpd (td ty : TE) : TE := fun σ H Q => td σ H fun x H1 => ∃ a, x = .ref a ∧ IsD H1 a ∧ ty σ H1 fun y H2 => ∃ b kvs more, y = .ref b ∧ a ≠ b ∧ H2 a = some (.dK kvs) ∧ H2 b = some (.dK more) ∧ kvs.length + more.length ≤ sizeLine ∧ Q .non (upd H2 a (.dK (mergeK kvs more)))
theorem pe_dupd (ho : PE X o td) (he : PE X e ty) (m : M1 X o "update" apos e cpos) : PE X (.Call (.Attribute o "update" apos) [e] [] cpos) (tDUpd td ty) := by
  refine ⟨fun pins s σ H Q I h => ?_⟩
  refine wpAny_Call_method m.base m.few m.line PySem.F.plainAttrs_dict PySem.F.slot_dict_update PySem.F.type_dict_update (thn (ho.run pins s σ H _ I h) fun u s1 ⟨x, H1, I1, rx, a, ex, d, q1⟩ => ?_)
  subst ex
  obtain rfl : u = Value.ref a := rx
  obtain ⟨t1, t2, _⟩ := isD_at I1 d
  refine ⟨t1, t2, ?_⟩
  rw [m.trees]
  refine Calls.callWith_builtin rfl (Calls.evalArgs_plain (Calls.spliced_cons (thn (he.run pins s1 σ H1 _ I1 q1) fun iv s2 ⟨y, H2, I2, ry, b, kvs, more, ey, hn, ea, eb, hz, q2⟩ => Calls.spliced_nil ?_)))
  subst ey
  obtain rfl : iv = Value.ref b := ry
  exact d_update I2 ea eb hn hz fun s3 I3 => ⟨.non, _, I3, rfl, q2⟩
end
theorem pi_tupK {X : Cx} (K : PySem.W.Frag) {tg l : Expr} {tl : TE} (hl : PE X l tl) (h : X.K = K := by rfl) : PI X tg l (iTup K tl) := by
  subst h
  exact pi_tup hl
theorem pg_tupK {X : Cx} (K : PySem.W.Frag) {es : List Expr} {k : Nat} {t : TGs} {n : Nat} {pos : Pos} (hc : X.calm = true) (h : PGs X es t) (hK : X.K = K := by rfl)
    (hn : (assignEach es X.env).length = n := by rfl) (hst : (assignEach es X.env).findIdx? (·.1) = none := by rfl) : PG X (.Tuple es k pos) (gTup K n t) := by
  subst hK
  exact pg_tup hc h hn hst
theorem call_tuple_ofK {X : Cx} (K : PySem.W.Frag) (h : X.K = K := by rfl) : CallR X (.type "tuple") (fun xs H Q => ∃ p ys, xs = [V.ref p] ∧ ((SqL K H p ys ∧ ∀ (l : Addr), H l = Option.none → Q (V.ref l) (upd H l (HO.tup ys))) ∨ SqT K H p ys ∧ Q (V.ref p) H)) := by
  subst h
  exact call_tuple_of
end Tw
namespace K10
open PySem PySem.Spec PyProof.Rows L2 He Tw
/-! ### tables of code objects, by names -/
def nm (q : Str) : Str := q ++ ".<locals>." ++ "<lambda>"
def host : Str → Option Str := fun q => some (nm q)
def Tb (K : Fg) : List (Addr × Str) := [(tabAt K (ga K "_law_do"), nm "_law_do"), (tabAt K (ga K "_law_tried"), nm "_law_tried"), (tabAt K (ga K "law"), nm "law"), (tabAt K (ma K (ga K "Row") "settle"), nm "Row.settle")]
abbrev Tk (K : Fg) (H : Hp) : Prop := Tbn host (Tb K) H
def TBs (K : Fg) (mg : Str → Option Value) (base : Heap) : Prop := ∀ f ∈ tabs, LamX.TabB base mg (Tw.codeAt K (f K)) (tabAt K (f K))
theorem TBs.up {K : Fg} {mg : Str → Option Value} {b b' : Heap} (t : TBs K mg b) (s : Sub b b') : TBs K mg b' := fun f hf => ⟨(t f hf).code.keeps s, by
  obtain ⟨bm, o, m1, m2, m3, m4, m5, m6⟩ := (t f hf).bm
  exact ⟨bm, o, m1, m2, m3, m4, s _ _ m5, m6⟩, (t f hf).gP⟩
theorem bmIn {base : Heap} {mg : Str → Option Value} {c P : Addr} (t : LamX.TabB base mg c P) : BmIn base mg := ⟨P, t.bm⟩
theorem made_def {X : Cx} {L : List (Addr × Str)} {c P : Addr} (TB : LamX.TabB X.base X.mg c P) (hcode : X.env.code = .ref c) (hm : (P, X.env.qual ++ "<lambda>") ∈ L) :
    ∃ c P, X.env.code = .ref c ∧ (P, X.env.qual ++ "<lambda>") ∈ L ∧ ∀ pins σ H s, Inv X pins σ H s → True → PySem.W.CodeHd s.heap c P := ⟨c, P, hcode, hm, fun pins σ H s I _ => TB.code.keeps I.bk⟩
theorem made_lam {X : Cx} {L : List (Addr × Str)} {c P : Addr} {q : Str} (hcode : X.env.code = .ref c) (hm : (P, X.env.qual ++ "<lambda>") ∈ L) :
    ∃ c' P', X.env.code = .ref c' ∧ (P', X.env.qual ++ "<lambda>") ∈ L ∧ ∀ pins σ H s, Inv X pins σ H s → H c = some (CodeN c q P) → PySem.W.CodeHd s.heap c' P' := ⟨c, P, hcode, hm, fun pins σ H s I h => by
  obtain ⟨⟨h1, _⟩, _, _⟩ := I.hok c _ h
  exact h1⟩
theorem codeIn_ref {K : Fg} {v : Value} {q : Str} (h : PySem.W.codeIn K v q = true) : ∃ c, v = .ref c := by
  unfold PySem.W.codeIn at h
  split at h
  · exact ⟨_, rfl⟩
  · cases h
theorem caps_by {cs N : List Str} {caps : List Nat} (h : ((cs.zip caps).all fun p => decide (N[p.2]? = some p.1)) = true) : ∀ (j : Nat) (y : Str) (i : Nat), cs[j]? = some y → caps[j]? = some i → N[i]? = some y := fun j y i h1 h2 => by
  have hm : (y, i) ∈ cs.zip caps := List.mem_of_getElem? (i := j) (by rw [List.getElem?_zip_eq_some]; exact ⟨h1, h2⟩)
  exact of_decide_eq_true (List.all_eq_true.mp h _ hm)
theorem tbn_but {ho : Str → Option Str} {L : List (Addr × Str)} {p : Addr} {H H' : Hp} (t : Tbn ho L H) (e : But p H H') (hp : ∃ C dx fs, H p = some (.ins C dx fs)) : Tbn ho L H' := by
  obtain ⟨C, dx, fs, hp⟩ := hp
  obtain ⟨ν, h1, h2⟩ := t
  refine ⟨ν, h1, fun P q hq => ?_⟩
  obtain ⟨ps, a1, a2, a3⟩ := h2 P q hq
  refine ⟨ps, e _ _ a1 (fun z => ?_), a2, fun pos cv hc => ?_⟩
  · rw [z, hp] at a1
    cases a1
  · obtain ⟨c, P', y1, y2, y3⟩ := a3 pos cv hc
    refine ⟨c, P', y1, e _ _ y2 (fun z => ?_), y3⟩
    rw [z, hp] at y2
    unfold CodeN at y2
    cases y2
/-! ### what settle finds -/
def dA (w : Nat) (z : Str) : PyData := match ansV w z with
  | .int i => .int i
  | .str x => .str x
  | _ => .none
theorem dA_int {w : Nat} {z : Str} {i : Int} (h : ansV w z = .int i) : dA w z = .int i := by
  unfold dA
  rw [h]
theorem dA_str {w : Nat} {z x : Str} (h : ansV w z = .str x) : dA w z = .str x := by
  unfold dA
  rw [h]
theorem dA_scal (w : Nat) (z : Str) : ScalD (ansV w z) (dA w z) := by
  rcases ans_two w z z with ⟨a, _, e, _⟩ | ⟨a, _, e, _⟩
  · rw [e, dA_int e]
    exact .int a
  · rw [e, dA_str e]
    exact .str a
theorem dA_alike (w : Nat) (z u : Str) : PySem.W.alike (dA w z) (dA w u) = true := by
  rcases ans_two w z u with ⟨a, b, e1, e2⟩ | ⟨a, b, e1, e2⟩
  · rw [dA_int e1, dA_int e2]
    simp [PySem.W.alike]
  · rw [dA_str e1, dA_str e2]
    simp [PySem.W.alike]
theorem le_key (w : Nat) (p q : Int × Str) : (!PySem.W.dataLt (Tw.pairD (q.1, dA w q.2)) (Tw.pairD (p.1, dA w p.2))) = leP w p q := by
  unfold Tw.pairD
  rw [PySem.W.dataLt_pair (by simp [PySem.W.alike]) (dA_alike w _ _)]
  unfold leP lea
  by_cases h : q.1 = p.1
  · have hi : ∀ b : List Nat, ¬ b < b := fun b => List.lt_irrefl b
    rcases ans_two w q.2 p.2 with ⟨a, b, e1, e2⟩ | ⟨a, b, e1, e2⟩
    · rw [dA_int e1, dA_int e2, e1, e2, PySem.W.dataLt_int]
      by_cases hab : a = b <;> simp [h, hab, PyData.eqv, ltV]
    · rw [dA_str e1, dA_str e2, e1, e2, PySem.W.dataLt_str]
      by_cases hab : a = b <;> simp [h, hab, PyData.eqv, ltV, hi]
  · have h' : ¬ p.1 = q.1 := fun z => h z.symm
    rw [if_neg (by simp [PyData.eqv, h]), PySem.W.dataLt_int]
    by_cases h2 : q.1 < p.1
    · have : ¬ p.1 < q.1 := by omega
      simp [h2, this, h']
    · have : p.1 < q.1 := by omega
      simp [h2, this]
/-- place, item and pair side by side -/
def trip (ys : List V) (ps : List (Int × Str)) : List (V × (V × (Int × Str))) := (upToV ys.length).zip (ys.zip ps)
def sortT (w : Nat) (ys : List V) (ps : List (Int × Str)) : List (V × (V × (Int × Str))) := (trip ys ps).mergeSort fun a b => leP w a.2.2 b.2.2
theorem upTo_get {n k : Nat} (h : k < n) : (upToV n)[k]? = some (.int (k : Int)) := by
  unfold upToV
  rw [List.getElem?_map, List.getElem?_range h]
  rfl
theorem trip_mem {ys : List V} {ps : List (Int × Str)} {x : V × (V × (Int × Str))} (hx : x ∈ trip ys ps) : ∃ k : Nat, x.1 = .int (k : Int) ∧ ys[k]? = some x.2.1 ∧ ps[k]? = some x.2.2 := by
  unfold trip at hx
  obtain ⟨k, hk, e⟩ := List.getElem_of_mem hx
  have e' : ((upToV ys.length).zip (ys.zip ps))[k]? = some x := by rw [List.getElem?_eq_getElem hk, e]
  rw [List.getElem?_zip_eq_some, List.getElem?_zip_eq_some] at e'
  obtain ⟨e1, e2, e3⟩ := e'
  have hl : k < ys.length := (List.getElem?_eq_some_iff.mp e2).1
  rw [upTo_get hl] at e1
  exact ⟨k, (Option.some.inj e1).symm, e2, e3⟩
theorem sortT_mem {w : Nat} {ys : List V} {ps : List (Int × Str)} {x : V × (V × (Int × Str))} (hx : x ∈ sortT w ys ps) : x ∈ trip ys ps := (List.mergeSort_perm _ _).mem_iff.mp hx
theorem upTo_len (n : Nat) : (upToV n).length = n := by
  unfold upToV
  rw [List.length_map, List.length_range]
theorem sortT_pairs {w : Nat} {ys : List V} {ps : List (Int × Str)} (hl : ys.length = ps.length) : (sortT w ys ps).map (·.2.2) = ps.mergeSort (leP w) := by
  unfold sortT
  rw [List.map_mergeSort (s := leP w) fun _ _ _ _ => rfl]
  congr 1
  unfold trip
  rw [show (fun x : V × (V × (Int × Str)) => x.2.2) = Prod.snd ∘ Prod.snd from rfl, ← List.map_map, List.map_snd_zip (by rw [upTo_len, List.length_zip, hl, Nat.min_self]; exact Nat.le_refl _), List.map_snd_zip (by rw [hl]; exact Nat.le_refl _)]
theorem sortT_order {w : Nat} {ys : List V} {ps : List (Int × Str)} (hl : ys.length = ps.length) :
    (((upToV ys.length).zip (ps.map fun p => (p.1, dA w p.2))).mergeSort (PySem.W.dataLe false fun b => Tw.pairD b.2)).map (·.1) = (sortT w ys ps).map (·.1) := by
  have e : (upToV ys.length).zip (ps.map fun p => (p.1, dA w p.2)) = (trip ys ps).map fun x => (x.1, (x.2.2.1, dA w x.2.2.2)) := by
    refine List.ext_getElem? fun k => ?_
    unfold trip
    by_cases hk : k < ys.length
    · have h1 := upTo_get hk
      have h2 : ys[k]? = some ys[k] := List.getElem?_eq_getElem hk
      have h3 : ps[k]? = some (ps[k]'(by omega)) := List.getElem?_eq_getElem (by omega)
      rw [List.getElem?_map]
      have a1 : ((upToV ys.length).zip (ys.zip ps))[k]? = some (.int (k : Int), (ys[k], ps[k]'(by omega))) := by
        rw [List.getElem?_zip_eq_some, List.getElem?_zip_eq_some]
        exact ⟨h1, h2, h3⟩
      rw [a1]
      have a2 : ((upToV ys.length).zip (ps.map fun p => (p.1, dA w p.2)))[k]? = some (.int (k : Int), ((ps[k]'(by omega)).1, dA w (ps[k]'(by omega)).2)) := by
        rw [List.getElem?_zip_eq_some, List.getElem?_map, h3]
        exact ⟨h1, rfl⟩
      rw [a2]
      rfl
    · rw [List.getElem?_eq_none (by rw [List.length_zip, upTo_len, List.length_map]; omega), List.getElem?_eq_none (by rw [List.length_map, List.length_zip, upTo_len]; omega)]
  rw [e]
  unfold sortT
  rw [← List.map_mergeSort (r := fun a b => leP w a.2.2 b.2.2) fun a _ b _ => ?_, List.map_map]
  · rfl
  · rw [PySem.W.dataLe_eq]
    exact (le_key w a.2.2 b.2.2).symm
theorem paired_maps {α β γ : Type} {F : β → γ → Prop} {g : α → β} {h : α → γ} : ∀ {l : List α}, (∀ x ∈ l, F (g x) (h x)) → Paired F (l.map g) (l.map h)
  | [], _ => .nil
  | x :: l, k => .cons (k x List.mem_cons_self) (paired_maps fun y hy => k y (List.mem_cons_of_mem _ hy))
theorem paired_ix {α β : Type} {F : α → β → Prop} : ∀ {xs : List α} {ys : List β}, xs.length = ys.length → (∀ (i : Nat) (x : α) (y : β), xs[i]? = some x → ys[i]? = some y → F x y) → Paired F xs ys
  | [], [], _, _ => .nil
  | x :: xs, y :: ys, h, k => .cons (k 0 x y rfl rfl) (paired_ix (by simpa using h) fun i a b h1 h2 => k (i + 1) a b (by simpa using h1) (by simpa using h2))
  | [], _ :: _, h, _ => by simp at h
  | _ :: _, [], h, _ => by simp at h
end K10
/-! Tw: with e as y: suite, e an object of an own class; the suite may raise: __exit__ is called with the error and lets it go on. -/
namespace Tw
open PySem PySem.Spec PyProof.Rows L2 He
/-- what a def promises that runs while an exception is handled around it; it raises nothing -/
def FnX (P : Program) (w : World) (K : Fg) (mg : Str → Option Value) (base : Heap) (k : Nat) (f : Addr) (sp : Sp) : Prop :=
  ∀ (A : Around) (outer : List Env) (s : Shared) (H : Hp) (us : List Value) (vs : List V) (Q : VK) (p : Addr × Obj), L2H.RoomH k A → L2H.PinOk outer H s p → Env0 P w K mg base A outer s H → Vals vs us → sp vs H Q E0 →
    codeAny (model P w) A (.call (.ref f) ⟨us, []⟩) (CR CX0 outer P w H s Q E0) s
theorem fnX_of {P : Program} {w : World} {K : Fg} {mg : Str → Option Value} {base : Heap} {x qual : Str} {params : Arguments} {body : List Stmt} {scope : Scope} {f : Addr} {fd : FuncData} {N ps : List Str} {k : Nat} {sp : Sp}
    (F : FunD K x qual params body scope [] [] f fd) (S : FnScope N ps scope) (hb : Binds K fd ps []) (len : ∀ vs H Q E, sp vs H Q E → vs.length = ps.length)
    (hbody : ∀ (cdv : Value) (A : Around) (outer : List Env) (s : Shared) (H : Hp) (vs : List V) (Q : VK) (p : Addr × Obj), L2H.RoomH k (A.deeper (envOfC qual scope s.heap.objs.size f cdv)) → sp vs H Q E0 →
      ∃ t, PSs (L2H.cxH CX0 P w K mg base N qual scope f cdv A outer s H E0 p) body t ∧ t { nx := fun _ H' => Q .non H', rt := Q } (start N vs) H) : FnX P w K mg base (k + 1) f sp := by
  obtain ⟨oc, od, dV, kV, doc, pm, an, cdv, ct, osl, rfl, lk, hcd, _, _⟩ := F.ex
  intro A outer s H us vs Q p hr hp e0 r hsp
  have hl : us.length = ps.length := by
    rw [← r.length]
    exact len _ _ _ _ hsp
  have KX : K.In s.heap := e0.mod.kin.keeps fun b o e => (e0.bs b o e).1
  have lim : s.heap.NoLimit := e0.mod.nolimit.keeps fun b o e => (e0.bs b o e).1
  have bs := hb s us KX (by rw [List.append_nil]; exact hl)
  rw [List.append_nil] at bs
  have kinds : ∀ y ∈ ps.zip us, scope.names.lookup y.1 = some .local ∨ (scope.names.lookup y.1 = some .cell ∧ ((cellsFrom (s.heap.objs.size + 1) scope.names []).lookup y.1).isSome = true) := fun ⟨n, v⟩ hy => by
    have := S.par n (List.of_mem_zip hy).1
    rcases this with q | q
    · exact .inl q
    · exact .inr ⟨q, PySem.W.cellsFrom_some _ _ _ (.inl q)⟩
  refine codeAny_call_function hr.depth (KX _ _ lk) rfl S.co S.gen rfl (PySem.W.codeRec_of KX hcd) (bs _ _ _ _ ?_)
  refine wpAny_newFunctionEnv_cells S.kind kinds fun env he s1 x => ?_
  subst he
  refine ⟨lim.keeps x.toInCall.keep, codeAny_func ?_⟩
  obtain ⟨t, ht, hq⟩ := hbody cdv A outer s H vs Q p (hr.deeper _) hsp
  refine wpAny_mono (ht.run [] s1 (start N vs) H _ (L2H.inv_startH S hp e0 (len _ _ _ _ hsp) r x) hq) (fun fl s' hs => ?_) fun e s' hs => hs
  cases fl with
  | ret u =>
    obtain ⟨v, σ', H', J, rv, q⟩ := hs
    exact ⟨v, H', J.os, J.bare, J.base, J.hok, rv, q⟩
  | next =>
    obtain ⟨σ', H', J, q⟩ := hs
    exact ⟨.non, H', J.os, J.bare, J.base, J.hok, rfl, q⟩
  | brk =>
    obtain ⟨_, _, _, q⟩ := hs
    exact q.elim
  | cont =>
    obtain ⟨_, _, _, q⟩ := hs
    exact q.elim
/-- what is wished of an error of the suite: __exit__ gives None, then Wout -/
def wExit (spX : Sp) (m : V) (Wout : WX) : WX := fun cls d σ H => ∃ kv : V, RelV kv cls ∧ ∀ ev tv : V, spX [m, kv, ev, tv] H (fun r H' => r = .non ∧ Wout cls d σ H') E0
/-- what is wished of the suite's end: __exit__ is called with Nones -/
def dExit (spX : Sp) (m : V) (D : Ends) : Ends where
  nx := fun σ H => spX [m, .non, .non, .non] H (fun _ H' => D.nx σ H') E0
  rt := fun v H => spX [m, .non, .non, .non] H (fun _ H' => D.rt v H') E0
  bk := fun σ H => spX [m, .non, .non, .non] H (fun _ H' => D.bk σ H') E0
  ct := fun σ H => spX [m, .non, .non, .non] H (fun _ H' => D.ct σ H') E0
def tWith (i : Nat) (C : Addr) (spE spX : Sp) (tc : TE) (tb : WX → TS) (Wout : WX) : TS := fun D σ H => tc σ H fun m H1 => ∃ x dx fs, m = .ref x ∧ H1 x = some (.ins C dx fs) ∧ spE [m] H1 (fun v H2 => tb (wExit spX m Wout) (dExit spX m D) (σ.set i (some v)) H2) E0
section
variable {X : Cx} {i : Nat} {y : Str} {C fx x : Addr} {kx : Nat} {spX : Sp} {Wout : WX} {D : Ends}
/-- the call of __exit__ with the error, then on it goes -/
def ExitGo (X : Cx) (fx x : Addr) (pins : List (Addr × Obj)) (D : Ends) (e : Value) (s : Shared) : Prop := e ≠ byPass ∧ ∃ (cls tb : Value), PySem.W.Looks (model X.prog X.w) s.heap (typeOf e) cls ∧ PySem.W.Looks (model X.prog X.w) s.heap (tracebackOf e) tb ∧
  codeAny (model X.prog X.w) (X.A.mark (some e)) (.call (.ref fx) ⟨[.ref x, cls, e, tb], []⟩) (fun r s' => match r with | .ok (.ret v) => v = .none ∧ wpAny (model X.prog X.w) X.A (PySem.passOn "with" e X.env) (SP X pins D) X.xe s' | _ => False) s
theorem with_exc {pins : List (Addr × Obj)} {u : Value} {s' : Shared} {xe : Value → Shared → Prop} (hs : X.stack = X.env :: X.outer) (hf : X.env.frame = some X.env.locals) (hex : X.ex = []) (ok : X.Ok) (tk : Takes X Wout) (FH : FnX X.prog X.w X.K X.mg X.base kx fx spX) (hr : L2H.RoomH kx X.A)
    (xx : XE (X.tr (X.pn ++ pins) xe) (wExit spX (.ref x) Wout) u s') :
    wpAny (model X.prog X.w) X.A (noteFrame u X.env) (fun _ s₂ => wpAny (model X.prog X.w) X.A (setFlight u none) (fun _ s₃ => ExitGo X fx x pins D u s₃) X.xe s₂) X.xe s' := by
  have hfr : X.A.frames = some (X.env :: X.outer) := by rw [ok.frames, hs]
  obtain ⟨a, B, sI, pins', σ', H', cls, d, rfl, J', nb, up, sky, na, os, ag, kv, rk, hw⟩ := xx
  have J : Inv X pins σ' H' sI := J'.ofTry ok
  have sky' : Sky B (X.env :: X.outer) a (Zc cls d) X.env.locals s'.heap := by rw [← hs]; exact sky
  refine Sky.land Zc.steady hfr hf sky' fun h3 fl3 up3 => ?_
  have J3 : Inv X pins σ' H' { s' with heap := h3 } := J.landed nb fl3.1 (up.trans up3) os ag
  obtain ⟨k1, k2, k3, oe, vs, T, oT, ts, he3, hz, hd, hv1, hnT, hTe, hT, hdT, ht3⟩ := id fl3
  have nT : H' T = none := (J.inGround nb).gone hnT
  have out : ∀ {b : Addr} {o : Obj} {fv : Array Value}, h3.get? b = some o → o.data = .fields fv → b ∉ frs (X.env :: X.outer) := fun {b o fv} e dd hm => by
    obtain ⟨_, o', e', z⟩ := k3.mem hm
    rw [e] at e'
    cases e'
    exact z _ dd
  have sub : ∀ b, b ∉ frs (X.env :: X.outer) → b ≠ X.env.locals ∧ b ∉ X.fs := fun b hb => ⟨fun z => hb (List.mem_filterMap.mpr ⟨X.env, List.mem_cons_self, by rw [hf, z]⟩), fun z => hb (by
    obtain ⟨e, y1, y2⟩ := List.mem_filterMap.mp z
    exact List.mem_filterMap.mpr ⟨e, List.mem_cons_of_mem _ y1, y2⟩)⟩
  have fa := out he3 hd
  have fT := out hT hdT
  -- the state while __exit__ runs: the error and its traceback are pinned
  have S3 : Inv (X.suite a ((a, oe) :: (T, oT) :: (X.pn ++ pins))) [] σ' H' { s' with heap := h3 } := by
    refine ⟨J3.ok.suite _ _, J3.os, J3.bare, J3.base, J3.loc, J3.cell, J3.free, J3.freeC, fun p hp => ?_, J3.hok, J3.len⟩
    rw [List.append_nil] at hp
    simp only [List.mem_cons] at hp
    rcases hp with rfl | rfl | hp
    · exact ⟨he3, na, (sub _ fa).1, (sub _ fa).2, fun v (z : oe.data = .cell v) => by rw [hd] at z; cases z⟩
    · exact ⟨hT, nT, (sub _ fT).1, (sub _ fT).2, fun v (z : oT.data = .cell v) => by rw [hdT] at z; cases z⟩
    · exact J3.pin p hp
  have L1 : PySem.W.Looks (model X.prog X.w) h3 (typeOf (.ref a)) cls := fun A Q E s k q => wpAny_typeOf_ref (k _ _ he3) (by rw [hz.1]; exact q)
  have z1 : 1 < ts.size := by
    have := (Array.getElem?_eq_some_iff.mp ht3).1
    omega
  have t1 : ts[1]? = some ts[1] := Array.getElem?_eq_getElem z1
  obtain ⟨tv, tb, rt, L2'⟩ : ∃ (tv : V) (tb : Value), RelV tv tb ∧ PySem.W.Looks (model X.prog X.w) h3 (tracebackOf (.ref a)) tb := by
    by_cases hn : (ts[1] == Value.none) = true
    · refine ⟨.non, .none, rfl, fun A Q E s k q => ?_⟩
      unfold tracebackOf
      refine wpAny_bind (wpAny_field (k _ _ he3) hd hv1 ?_)
      refine wpAny_bind (wpAny_field (k _ _ hT) hdT t1 ?_)
      rw [if_pos hn]
      exact wpAny_pure q
    · refine ⟨.ref T, .ref T, rfl, fun A Q E s k q => ?_⟩
      unfold tracebackOf
      refine wpAny_bind (wpAny_field (k _ _ he3) hd hv1 ?_)
      refine wpAny_bind (wpAny_field (k _ _ hT) hdT t1 ?_)
      rw [if_neg hn]
      exact wpAny_pure q
  refine ⟨ref_ne_byPass a, cls, tb, L1, L2', ?_⟩
  have pin : L2H.PinOk X.stack H' { s' with heap := h3 } (a, oe) := ⟨he3, na, by rw [hs]; exact fa, fun v (z : oe.data = .cell v) => by rw [hd] at z; cases z⟩
  refine codeAny_mono (FH (X.A.mark (some (.ref a))) X.stack _ H' [.ref x, cls, .ref a, tb] [.ref x, kv, .ref a, tv] _ (a, oe) ⟨hr.dp, hr.un⟩ pin S3.env0 (.cons rfl (.cons rk (.cons rfl (.cons rt .nil)))) (hw (.ref a) tv)) fun r s6 hq => ?_
  cases r with
  | error e => exact hq.elim
  | ok fl =>
  cases fl with
  | next => exact hq.elim
  | brk => exact hq.elim
  | cont => exact hq.elim
  | ret u =>
  obtain ⟨v6, H6, S6, r6, ev, q6⟩ := S3.after (Q := fun r H6 => r = .non ∧ Wout cls d σ' H6) hq
  subst ev
  obtain rfl : u = Value.none := r6
  refine ⟨rfl, ?_⟩
  have J6 : Inv X pins σ' H6 s6 := ⟨ok, S6.os, S6.bare, S6.base, S6.loc, S6.cell, S6.free, S6.freeC, fun p hp => S6.pin p (List.mem_append_left _ (List.mem_cons_of_mem _ (List.mem_cons_of_mem _ hp))), S6.hok, S6.len⟩
  obtain ⟨ga, na6, _⟩ := S6.pin (a, oe) (List.mem_append_left _ List.mem_cons_self)
  obtain ⟨gT, nT6, _⟩ := S6.pin (T, oT) (List.mem_append_left _ (List.mem_cons_of_mem _ List.mem_cons_self))
  have ga : s6.heap.get? a = some oe := ga
  have gT : s6.heap.get? T = some oT := gT
  -- nothing of ours is the error's
  have far : ∀ b o, sI.heap.get? b = some o → b ≠ a ∧ b ≠ T := fun b o e => by
    by_cases hb : b ∈ frs X.stack
    · rw [hs] at hb
      exact ⟨fun z => fa (z ▸ hb), fun z => fT (z ▸ hb)⟩
    · have q := nb b o e hb
      refine ⟨fun z => ?_, fun z => ?_⟩
      · rw [z, k2] at q
        cases q
      · rw [z, hnT] at q
        cases q
  obtain ⟨G, g1, g2⟩ := restrict s6.heap fun b => !(decide (b = a) || decide (b = T))
  have gIn : ∀ b o, G.get? b = some o → s6.heap.get? b = some o ∧ b ≠ a ∧ b ≠ T := fun b o e => by
    cases q : (!(decide (b = a) || decide (b = T))) with
    | false =>
      rw [g2 b q] at e
      cases e
    | true =>
      rw [g1 b q] at e
      simp only [Bool.not_eq_true', Bool.or_eq_false_iff, decide_eq_false_iff_not] at q
      exact ⟨e, q⟩
  have I6 : Inv X pins σ' H6 { s6 with heap := G } := by
    refine J6.less (fun b o e => (gIn b o e).1) (fun b o n1 n2 e => ?_) ⟨oe, vs, ga, hd⟩ ⟨oT, ts, gT, hdT⟩ na6 nT6 (fun b o e => ?_) fun p hp => far p.1 p.2 (J.pin p hp).1
    · rw [g1 b (by simp [n1, n2])]
      exact e
    · obtain ⟨o', q⟩ := J.base.there b o e (by rw [hex]; simp)
      exact far b o' q
  have gone : ∀ b, (b = a ∨ b = T) → (PySem.W.hideAll G (frs X.stack)).get? b = none := fun b hb => by
    cases q : (PySem.W.hideAll G (frs X.stack)).get? b with
    | none => rfl
    | some o =>
      obtain ⟨_, n1, n2⟩ := gIn b o (PySem.W.of_hideAll _ q)
      exact (hb.elim n1 n2).elim
  have fl6 : HandSPX.FlyingZ (PySem.W.hideAll G (frs X.stack)) (X.env :: X.outer) a (Zc cls d) s6.heap := by
    refine ⟨fun b o e => (gIn b o (PySem.W.of_hideAll _ e)).1, gone a (.inl rfl), ?_, oe, vs, T, oT, ts, ga, hz, hd, hv1, gone T (.inr rfl), hTe, gT, hdT, ht3⟩
    rw [← hs]
    exact funFrames_none J6.stack fun b hb => PySem.W.hideAll_none _ hb
  unfold PySem.passOn
  refine wpAny_bind (wpAny_field ga hd hv1 ?_)
  rw [if_neg (show ¬ ((Value.ref T == Value.none) = true) from by simp)]
  have goOn : wpAny (model X.prog X.w) X.A (setFlight (.ref a) X.env.frame) (fun _ s7 => wpAny (model X.prog X.w) X.A (throw (.ref a) : Sem Flow) (SP X pins D) X.xe s7) X.xe s6 := by
    rw [hf]
    refine HandSPX.setFlight_upZ fl6 fun h7 hh7 up7 => wpAny_throw (tk _ _ ⟨a, PySem.W.hideAll G (frs X.stack), { s6 with heap := G }, pins, σ', H6, cls, d, rfl, I6, fun b o e hb => PySem.W.hideAll_get _ e hb, ?_, .inr (.inr ?_), na6, rfl, J6.bare, q6⟩)
    · exact Heap.UpToSlots.trans (Heap.UpToSlots.of_keeps fun b o e => (gIn b o e).1) up7
    · rw [← hs] at hh7
      exact hh7
  first
    | exact wpAny_bind (wpAny_pure (wpAny_bind goOn))
    | exact wpAny_bind goOn
theorem ps_withX {ctx : Expr} {py pos : Pos} {body : List Stmt} {fe : Addr} {fdE fdX : FuncData} {psE psX : List Str} {spE : Sp} {ke : Nat} {tc : TE} {tb : WX → TS}
    (hs : X.stack = X.env :: X.outer) (hf : X.env.frame = some X.env.locals) (hex : X.ex = []) (tk : Takes X Wout) (hc : PE X ctx tc)
    (ae : PySem.W.findIn X.K (.ref C) "__enter__" = some (some (.ref fe))) (ne : PySem.W.isFn X.K (.ref fe) = true) (ax : PySem.W.findIn X.K (.ref C) "__exit__" = some (some (.ref fx))) (nx : PySem.W.isFn X.K (.ref fx) = true)
    (FE : FnOk X.prog X.w X.K X.mg X.base CX0 ke fe fdE psE spE) (hre : Room ke X.A) (be : Binds X.K fdE psE [])
    (FX : FnOk X.prog X.w X.K X.mg X.base CX0 kx fx fdX psX spX) (hrx : Room kx X.A) (bx : Binds X.K fdX psX []) (FH : FnX X.prog X.w X.K X.mg X.base kx fx spX)
    (hN : X.N.Nodup) (hi : X.N[i]? = some y) (hl : Loc X.env.scope y) (hfn : X.fn y = true ∨ X.env.scope.names.lookup y = some .local)
    (hb : ∀ (W : WX) (pn : List (Addr × Obj)) (xe : Value → Shared → Prop), Takes (X.tr pn xe) W → PassesOwn (model X.prog X.w) X.A X.env xe → PSs (X.tr pn xe) body (tb W)) :
    PS X (.With [⟨ctx, some (.Name y py)⟩] body pos) (tWith i C spE spX tc tb Wout) := by
  refine ⟨fun pins s σ H D I h => ?_⟩
  have ok := I.ok
  rw [arm_exec_With]
  refine wpAny_bind (wpAny_standAt ?_)
  rw [arm_withItems_cons, arm_withItems_nil]
  unfold withItem
  refine wpAny_bind (thn (hc.run pins s σ H _ I h) fun u s1 hq => ?_)
  obtain ⟨m, H1, I1, rm, x, dx, fs, rfl, hx, hsp⟩ := hq
  obtain rfl : u = Value.ref x := rm
  obtain ⟨cd, hcd, ae'⟩ := PySem.W.kw_along ae
  obtain ⟨cd', hcd', ax'⟩ := PySem.W.kw_along ax
  cases hcd.symm.trans hcd'
  obtain ⟨mA, O, _⟩ := ins_get I1.hok hx
  obtain ⟨od, II, _⟩ := O.look
  have L1 : PySem.W.Looks (model X.prog X.w) s1.heap (specialOnItsLine (.ref x) "__enter__") (some (.ref fe), cd.mro) := PySem.W.kw_special I1.kIn II hcd ae'
  have L2a : PySem.W.Looks (model X.prog X.w) s1.heap (specialOnItsLine (.ref x) "__exit__") (some (.ref fx), cd.mro) := PySem.W.kw_special I1.kIn II hcd ax'
  have L3 : PySem.W.Looks (model X.prog X.w) s1.heap (bindSpecial (.ref fe) (.ref x)) (.ref fe, [.ref x]) := PySem.W.bind_fn I1.kIn _ (beq_iff_eq.mp ne)
  have L4 : PySem.W.Looks (model X.prog X.w) s1.heap (bindSpecial (.ref fx) (.ref x)) (.ref fx, [.ref x]) := PySem.W.bind_fn I1.kIn _ (beq_iff_eq.mp nx)
  have L5 : PySem.W.Looks (model X.prog X.w) s1.heap (aMethodOfAnotherBuiltinTypeStops (.ref fe) cd.mro) () := PySem.W.Looks.of_pure rfl
  have L6 : PySem.W.Looks (model X.prog X.w) s1.heap (aMethodOfAnotherBuiltinTypeStops (.ref fx) cd.mro) () := PySem.W.Looks.of_pure rfl
  have go1 : wpAny (model X.prog X.w) X.A (call (.ref fe) [.ref x]) (EP X pins σ fun v H2 => tb (wExit spX (.ref x) Wout) (dExit spX (.ref x) D) (σ.set i (some v)) H2) X.xe s1 :=
    run_fnS (us := [.ref x]) (vs := [.ref x]) (E := fun _ => E0) FE hre be (fun _ _ _ _ _ _ z => z.elim) I1 (.cons rfl .nil) hsp
  refine wpAny_bind (wpAny_standAt ?_)
  simp only [Bool.false_eq_true, if_false]
  kw_lk
  refine thn go1 fun v s2 hq2 => ?_
  obtain ⟨vv, H2, I2, rv, q2⟩ := hq2
  kw_lk
  refine wpAny_attempt (PySem.W.kw_held ?_)
  show wpAny _ _ (assign (.Name y py) X.env v >>= fun _ => execs body X.env) _ _ _
  refine wpAny_bind (wpAny_assign_Name (store_ok I2 hN hi hl rv (fun s3 I3 => ?_) hfn))
  refine wpAny_mono ((hb (wExit spX (.ref x) Wout) (X.pn ++ pins) (fun e s₁ => wpAny (model X.prog X.w) X.A (noteFrame e X.env) (fun _ s₂ => wpAny (model X.prog X.w) X.A (setFlight e none) (fun _ s₃ => ExitGo X fx x pins D e s₃) X.xe s₂) X.xe s₁)
    (fun u s' xx => with_exc hs hf hex ok tk FH ⟨hrx.dp, hrx.un⟩ xx) PassesOwn.looking).run [] s3 _ H2 _ (I3.toTry _) q2) (fun f s4 hsp4 => ?_) fun e s4 he => ?_
  · -- the suite's end
    have ex : ∀ {σ4 : L2.St} {H4 : Hp} {R : Hp → Prop} {Q : Value → Shared → Prop}, Inv X pins σ4 H4 s4 → spX [.ref x, .non, .non, .non] H4 (fun _ H5 => R H5) E0 → (∀ u s5 H5, Inv X pins σ4 H5 s5 → R H5 → Q u s5) → wpAny (model X.prog X.w) X.A (call (.ref fx) [.ref x, .none, .none, .none]) Q X.xe s4 := fun {σ4 H4 R Q} I4 q4 k =>
      thn (run_fnS (us := [.ref x, .none, .none, .none]) (vs := [.ref x, .non, .non, .non]) (E := fun _ => E0) FX hrx bx (fun _ _ _ _ _ _ z => z.elim) I4 (.cons rfl (.cons rfl (.cons rfl (.cons rfl .nil)))) q4) fun u s5 ⟨_, H5, I5, _, r5⟩ => k u s5 H5 I5 r5
    cases f with
    | next =>
      obtain ⟨σ4, H4, I4, q4⟩ := hsp4
      kw_lk
      refine ex (I4.ofTry ok) q4 fun u s5 H5 I5 r5 => ?_
      kw_lk
      exact ⟨_, _, I5, r5⟩
    | brk =>
      obtain ⟨σ4, H4, I4, q4⟩ := hsp4
      kw_lk
      refine ex (I4.ofTry ok) q4 fun u s5 H5 I5 r5 => ?_
      kw_lk
      exact ⟨_, _, I5, r5⟩
    | cont =>
      obtain ⟨σ4, H4, I4, q4⟩ := hsp4
      kw_lk
      refine ex (I4.ofTry ok) q4 fun u s5 H5 I5 r5 => ?_
      kw_lk
      exact ⟨_, _, I5, r5⟩
    | ret w =>
      obtain ⟨v4, σ4, H4, I4, r4, q4⟩ := hsp4
      kw_lk
      refine ex (I4.ofTry ok) q4 fun u s5 H5 I5 r5 => ?_
      kw_lk
      exact ⟨_, _, _, I5, r4, r5⟩
  · refine wpAny_bind (wpAny_mono he (fun _ s5 h5 => wpAny_bind (wpAny_mono h5 (fun _ s6 h6 => ?_) fun _ _ z => z)) fun _ _ z => z)
    obtain ⟨y0, cls, tb, y1, y2, y3⟩ := h6
    refine wpAny_bind (wpAny_standAt (wpAny_holding ?_))
    refine wpAny_bind (y1.at (wpAny_bind (y2.at (wpAny_bind ?_))))
    unfold withItem.marked
    refine wpAny_bind (wpAny_run (codeAny_mono y3 fun r s7 hr => ?_) (fun z => ?_))
    · match r, hr with
      | .ok (.ret v), hr =>
        obtain ⟨rfl, hr⟩ := hr
        refine wpAny_pure ?_
        refine wpAny_bind (wpAny_pure ?_)
        refine wpAny_bind (wpAny_pure ?_)
        rw [if_neg (by decide)]
        exact hr
    · exact y0 (Option.some.inj z)
end
end Tw
namespace K10
open PySem PySem.Spec PyProof.Rows L2 He Tw
abbrev s_tx : Stmt := inClass (topS 25) 2
abbrev N_tx : List Str := ["self", "kind", "value", "trace", "owner"]
theorem sc_tx : FnScope N_tx ["self", "kind", "value", "trace"] (defScope s_tx) := ⟨rfl, rfl, rfl, by decide +kernel, rfl, by decide +kernel, by decide +kernel⟩
def spTx (K : Fg) : Sp := fun vs H Q _ => ∃ (t a s0 dx s1 : Addr) (k e tv : V), vs = [.ref t, k, e, tv] ∧ TrAt K H t a s0 ∧ H a = some (.ins (ga K "Row") dx [("state", .ref s1)]) ∧ (k = .non → Q .non H) ∧ (k ≠ .non → Q .non (upd H a (.ins (ga K "Row") dx [("state", .ref s0)])))
section
variable {P : Program} {w : World} {K : Fg} {mg : Str → Option Value} {base : Heap} {fd : Nat → FuncData}
theorem tx_len {K : Fg} : ∀ vs H Q E, spTx K vs H Q E → vs.length = (["self", "kind", "value", "trace"] : List Str).length := fun vs H Q E h => by
  obtain ⟨t, a, s0, dx, s1, k, e, tv, rfl, _⟩ := h
  rfl
theorem ok_tx {f : Addr} {fd : FuncData} (F : FnP K "__exit__" "Trial.__exit__" s_tx f fd) (T : Txt K mg) : FnOk P w K mg base CX0 1 f fd ["self", "kind", "value", "trace"] (spTx K) := by
  refine F.ok sc_tx tx_len (fun cdv A outer s H vs Q E hr h => ?_)
  obtain ⟨t, a, s0, dx, s1, k, e, tv, rfl, ⟨dt, ht⟩, ha, k1, k2⟩ := h
  refine ⟨_, PSs.nox (pss_cons (ps_set (i := 4) sc_tx.nd rfl (Or.inl rfl) (pe_fld (pv 0) rfl)) (pss_one (ps_if (pt_cmpR op_notN (pv 1) pe_non (nomark _)) (pss_one (ps_fld (pv 4) (pe_fld (pv 0) rfl) rfl)) pss_nil))), ?_⟩
  refine ⟨_, rfl, t, _, dt, _, _, rfl, ht, T.clsT, T.naT (by decide +kernel), rfl, ?_⟩
  refine ⟨_, rfl, rfl, _, rfl, ite2 (fun hk => ?_) (fun hk => ?_)⟩
  · refine ⟨_, rfl, t, _, dt, _, _, rfl, ht, T.clsT, T.naT (by decide +kernel), rfl, _, rfl, a, _, dx, _, rfl, ha, T.clsR, T.naR, (by show 1 < 1000; decide), ?_⟩
    exact k2 (by simpa using hk)
  · exact k1 (by simpa using hk)
theorem ok_txH {f : Addr} {fd : FuncData} (F : FnP K "__exit__" "Trial.__exit__" s_tx f fd) (T : Txt K mg) : FnX P w K mg base 1 f (spTx K) := by
  have b : Binds K fd ["self", "kind", "value", "trace"] [] := F.bindsN fun _ _ _ _ _ _ us hl => match us, hl with | [_, _, _, _], _ => rfl
  refine fnX_of F sc_tx b tx_len (fun cdv A outer s H vs Q p hr h => ?_)
  obtain ⟨t, a, s0, dx, s1, k, e, tv, rfl, ⟨dt, ht⟩, ha, k1, k2⟩ := h
  refine ⟨_, (pss_cons (ps_set (i := 4) sc_tx.nd rfl (Or.inl rfl) (pe_fld (pv 0) rfl)) (pss_one (ps_if (pt_cmpR op_notN (pv 1) pe_non (nomark _)) (pss_one (ps_fld (pv 4) (pe_fld (pv 0) rfl) rfl)) pss_nil))), ?_⟩
  refine ⟨_, rfl, t, _, dt, _, _, rfl, ht, T.clsT, T.naT (by decide +kernel), rfl, ?_⟩
  refine ⟨_, rfl, rfl, _, rfl, ite2 (fun hk => ?_) (fun hk => ?_)⟩
  · refine ⟨_, rfl, t, _, dt, _, _, rfl, ht, T.clsT, T.naT (by decide +kernel), rfl, _, rfl, a, _, dx, _, rfl, ha, T.clsR, T.naR, (by show 1 < 1000; decide), ?_⟩
    exact k2 (by simpa using hk)
  · exact k1 (by simpa using hk)
abbrev s_at : Stmt := inClass (topS 27) 34
abbrev N_at : List Str := ["self", "deed", "held"]
theorem sc_at : FnScope N_at ["self", "deed"] (defScope s_at) := ⟨rfl, rfl, rfl, by decide +kernel, rfl, by decide +kernel, by decide +kernel⟩
/-- the deed ends by Dn or raises by Fl; what it raises is let on, the row as it was -/
def spAt (n : Nat) (P : Program) (w : World) (K : Fg) (mg : Str → Option Value) (base : Heap) : Sp := fun vs H Q E => ∃ (a f s0 : Addr) (sl : Sp) (Dn : V → Hp → Prop) (Fl : Value → Option Addr → Hp → Prop), vs = [.ref a, .ref f] ∧ StAt K H a s0 ∧ PySem.W.FnAt f base ∧ FnR P w K mg base (L2.CX P w) n f sl ∧
  (∀ (H1 : Hp) (Q1 : VK) (E1 : XK), Same H H1 → (∀ v H2, ButN a H1 H2 → (∃ s1, StAt K H2 a s1) → Dn v H2 → Q1 v H2) → (∀ cls d H2, ButN a H1 H2 → (∃ s1, StAt K H2 a s1) → (∃ kv, RelV kv cls ∧ kv ≠ .non) → Fl cls d H2 → E1 cls d H2) → sl [.ref a] H1 Q1 E1) ∧
  (∀ v H2, Dn v H2 → Q v H2) ∧ (∀ cls d H2 H3, Fl cls d H2 → But a H2 H3 → StAt K H3 a s0 → E cls d H3)
theorem G_at {n : Nat} (hn : 3 ≤ n) (D : DefsK K fd) (T : Txt K mg) : FnOk P w K mg base (L2.CX P w) (n + 1) (ma K (ga K "Row") "attempt") (fd 48) ["self", "deed"] (spAt n P w K mg base) := by
  have FR : FnP K "trial" "Row.trial" s_tri (ma K (ga K "Row") "trial") (fd 47) := D 47 _ rfl
  have GR : FnOk P w K mg base CX0 3 _ (fd 47) ["self"] (spTri K) := ok_tri D FR T
  have bR : Binds K (fd 47) ["self"] [] := FR.bindsN fun _ _ _ _ _ _ us hl => match us, hl with | [_], _ => rfl
  have FE : FnP K "__enter__" "Trial.__enter__" s_te (ma K (ga K "Trial") "__enter__") (fd 50) := D 50 _ rfl
  have GE : FnOk P w K mg base CX0 1 _ (fd 50) ["self"] (spTe K) := ok_te FE T
  have bE : Binds K (fd 50) ["self"] [] := FE.bindsN fun _ _ _ _ _ _ us hl => match us, hl with | [_], _ => rfl
  have FX : FnP K "__exit__" "Trial.__exit__" s_tx (ma K (ga K "Trial") "__exit__") (fd 51) := D 51 _ rfl
  have GX : FnOk P w K mg base CX0 1 _ (fd 51) ["self", "kind", "value", "trace"] (spTx K) := ok_tx FX T
  have GH : FnX P w K mg base 1 _ (spTx K) := ok_txH FX T
  have bX : Binds K (fd 51) ["self", "kind", "value", "trace"] [] := FX.bindsN fun _ _ _ _ _ _ us hl => match us, hl with | [_, _, _, _], _ => rfl
  have mE := T.mtT (m := "__enter__") (by decide +kernel)
  have mX := T.mtT (m := "__exit__") (by decide +kernel)
  have mR := T.mtR2 (m := "trial") (by decide +kernel)
  have F : FnP K "attempt" "Row.attempt" s_at (ma K (ga K "Row") "attempt") (fd 48) := D 48 _ rfl
  refine F.ok sc_at (fun vs H Q E h => ?_) (fun cdv A outer s H vs Q E hr h => ?_)
  · obtain ⟨a, f, s0, sl, Dn, Fl, rfl, _⟩ := h
    rfl
  · obtain ⟨a, f, s0, sl, Dn, Fl, rfl, hs, hf, FL, hdeed, hdn, hfl⟩ := h
    refine ⟨_, (pss_one (ps_withX (i := 2) (y := "held") (C := ga K "Trial") (Wout := fun cls d _ H => E cls d H) (tb := fun W D σ H => ∃ Ech : XK, (∀ cls d σ' H', Ech cls d H' → W cls d σ' H') ∧ σ[1]? = some (some (.ref f)) ∧ ∃ v, σ[2]? = some (some v) ∧ sl [v] H (fun v H' => D.rt v H') Ech) rfl rfl rfl (takes_of rfl rfl rfl rfl)
      (pe_meth0 (E := E0) (pv 0) T.clsR mR GR (hr.mono hn) bR .nil pass0) mE.at_ mE.fn mX.at_ mX.fn GE (hr.mono (by omega)) bE GX (hr.mono (by omega)) bX GH sc_at.nd rfl (.inl rfl) (.inl rfl) (fun W pn xe tk ps => ?suite))), ?_⟩
    case suite =>
      refine ⟨fun pins s' σ H' D' I h' => ?_⟩
      obtain ⟨Ech, hW, h1, v, h2, h3⟩ := h'
      exact (pss_one (ps_ret (pe_callF (E := Ech) (i := 1) rfl (.inl rfl) hf FL hr (passes_call tk fun _ _ _ _ z => hW _ _ _ _ z) (pa_cons (pv 2) pa_nil)))).run pins s' σ H' D' I ⟨h1, v, h2, h3⟩
    · obtain ⟨da, hda⟩ := id hs
      refine ⟨_, rfl, a, da, _, rfl, hda, rfl, a, s0, rfl, hs, fun t H1 f1 s1 tr => ?_⟩
      obtain ⟨dt, hdt⟩ := id tr
      refine ⟨t, dt, _, rfl, hdt, t, a, s0, s0, rfl, tr, ⟨da, s1 _ _ hda⟩, fun H2 B2 tr2 => ?_⟩
      have s2 : Same H H2 := same_but s1 B2 f1
      have nta : t ≠ a := fun z => by
        rw [z, hda] at f1
        cases f1
      have keep : ∀ H3, ButN a H2 H3 → TrAt K H3 t a s0 := fun H3 bn => by
        obtain ⟨d2, h2⟩ := tr2
        exact ⟨d2, bn _ _ h2 nta fun _ z => nomatch z⟩
      refine ⟨fun cls d H' => ∃ kv : V, RelV kv cls ∧ ∀ ev tv : V, spTx K [.ref t, kv, ev, tv] H' (fun r H'' => r = .non ∧ E cls d H'') E0, fun _ _ _ _ z => z, rfl, .ref a, rfl, hdeed H2 _ _ s2 (fun v H3 bn st dn => ?_) fun cls d H3 bn st kv fl => ?_⟩
      · obtain ⟨s3, d3, h3⟩ := st
        exact ⟨t, a, s0, d3, s3, .non, .non, .non, rfl, keep H3 bn, h3, fun _ => hdn v H3 dn, fun z => absurd rfl z⟩
      · obtain ⟨s3, d3, h3⟩ := st
        obtain ⟨kv, rk, nk⟩ := kv
        exact ⟨kv, rk, fun ev tv => ⟨t, a, s0, d3, s3, kv, ev, tv, rfl, keep H3 bn, h3, fun z => absurd z nk, fun _ => ⟨rfl, hfl cls d H3 _ fl But.upd ⟨d3, upd_same⟩⟩⟩⟩
end
end K10
namespace K10
open PySem PySem.Spec PyProof.Rows L2 He Tw
def pd (q : Int × Str) : PyData := .tuple [.int q.1, .str q.2]
theorem dp_prs {K : Fg} {H : Hp} : ∀ {ts : List V} {ps : List (Int × Str)}, Prs H ts ps → DpAll K H ts (ps.map pd)
  | _, _, .nil => .nil
  | _, _, .cons ⟨t, h1, h2⟩ r => by
    subst h1
    exact .cons (.tup (SqT.of h2) (.cons (.int _) (.cons (.str _) .nil))) (dp_prs r)
theorem letters_lt : ∀ c ∈ letters.cps.toList, c < 128 := by decide +kernel
theorem text_strOk {z : Str} (h : textOk z = true) : PyData.strOk z = true := by
  unfold textOk at h
  unfold PyData.strOk
  rw [← Array.all_toList, List.all_eq_true]
  exact fun c hc => decide_eq_true (Nat.lt_trans (letters_lt c (of_decide_eq_true (List.all_eq_true.mp (ba h).2 c hc))) (by decide))
theorem lay_prs : ∀ {ps : List (Int × Str)}, (∀ q ∈ ps, textOk q.2 = true) → PyData.canLayAll0 (ps.map pd) = true ∧ PyData.depthAll (ps.map pd) ≤ 1
  | [], _ => ⟨rfl, Nat.zero_le _⟩
  | q :: ps, h => by
    obtain ⟨h1, h2⟩ := lay_prs (ps := ps) fun x hx => h x (List.mem_cons_of_mem _ hx)
    have h3 := text_strOk (h q List.mem_cons_self)
    constructor
    · simp only [List.map_cons, pd, PyData.canLayAll0, PyData.canLay0, h1, h3, Bool.and_self]
    · simp only [List.map_cons, pd, PyData.depthAll, PyData.depth]
      omega
theorem shaped_prs {ps : List (Int × Str)} (h : ∀ q ∈ ps, textOk q.2 = true) : SeqAt.shaped (.list (ps.map pd)) = true := by
  obtain ⟨h1, h2⟩ := lay_prs h
  simp only [SeqAt.shaped, PyData.canLay0, PyData.depth, h1, Bool.true_and]
  exact decide_eq_true (by omega)
theorem eqv_prs {ps : List (Int × Str)} (h : ∀ q ∈ ps, textOk q.2 = true) : PyData.eqv (.list (ps.map pd)) (.list (ps.map pd)) = true := SeqAt.eqv_refl _ (by
  have := (lay_prs h).1
  simpa [PyData.canLay0] using this)
theorem eqv_nil (q : Int × Str) (ps : List (Int × Str)) : PyData.eqv (.list ((q :: ps).map pd)) (.list []) = false := by simp [PyData.eqv, PyData.eqvAll]
theorem ne_pen {H : Hp} {b p l : Addr} {c : Nat} {o : HO} (P : PenL H p l c) (e : H b = some o) (n : ∀ xs, o ≠ .lst xs) : b ≠ p := fun z => by
  obtain ⟨ns, i, g, q1, _⟩ := P
  rw [z, q1] at e
  exact n _ (Option.some.inj e).symm
theorem rowBN {K : Fg} {H H' : Hp} {a p l : Addr} {c : Nat} {ys : List V} (h : RowAt K H a ys) (e : ButN p H H') (P : PenL H p l c) : RowAt K H' a ys := by
  obtain ⟨dx, t, h1, h2⟩ := h
  exact ⟨dx, t, e _ _ h1 (ne_pen P h1 fun _ z => nomatch z) (fun _ z => nomatch z), e _ _ h2 (ne_pen P h2 fun _ z => nomatch z) (fun _ z => nomatch z)⟩
theorem itsBN {K : Fg} {H H' : Hp} {p l : Addr} {c : Nat} (e : ButN p H H') (P : PenL H p l c) : ∀ {ys : List V} {ps : List (Int × Str)}, Its K H ys ps → Its K H' ys ps
  | _, _, .nil => .nil
  | _, _, .cons ⟨a, h1, dx, h2⟩ t => .cons ⟨a, h1, dx, e _ _ h2 (ne_pen P h2 fun _ z => nomatch z) (fun _ z => nomatch z)⟩ (itsBN e P t)
theorem prsBN {H H' : Hp} {p l : Addr} {c : Nat} {ts : List V} {ps : List (Int × Str)} (e : ButN p H H') (P : PenL H p l c) (h : Prs H ts ps) : Prs H' ts ps :=
  h.keep fun t xs g => e _ _ g (ne_pen P g fun _ z => nomatch z) (fun _ z => nomatch z)
theorem its_ext {K : Fg} {H H' : Hp} (e : LamX.ExtN H H') : ∀ {ys : List V} {ps : List (Int × Str)}, Its K H ys ps → Its K H' ys ps
  | _, _, .nil => .nil
  | _, _, .cons ⟨b, h1, dx, h2⟩ t => .cons ⟨b, h1, dx, e _ _ h2 fun _ z => nomatch z⟩ (its_ext e t)
theorem row_ext {K : Fg} {H H' : Hp} (e : LamX.ExtN H H') {a : Addr} {ys : List V} (h : RowAt K H a ys) : RowAt K H' a ys := by
  obtain ⟨dx, t, h1, h2⟩ := h
  exact ⟨dx, t, e _ _ h1 (fun _ z => nomatch z), e _ _ h2 (fun _ z => nomatch z)⟩
/-- but for a row (and the tables), the items stay -/
theorem its_butN {K : Fg} {H H' : Hp} {a dx : Addr} {fs : List (Str × V)} (ha : H a = some (.ins (ga K "Row") dx [("state", fs.headD ("", .non) |>.2)])) (e : ButN a H H') : ∀ {us : List V} {ps : List (Int × Str)}, Its K H us ps → Its K H' us ps
  | _, _, .nil => .nil
  | _, _, .cons ⟨b, h1, dx, h2⟩ t => .cons ⟨b, h1, dx, e _ _ h2 (fun z => by
    rw [z, ha] at h2
    have := Option.some.inj h2
    simp at this) fun _ z => nomatch z⟩ (its_butN ha e t)
theorem its_butA {K : Fg} {H H' : Hp} {a : Addr} {ys : List V} (ha : RowAt K H a ys) (e : ButN a H H') {us : List V} {ps : List (Int × Str)} (h : Its K H us ps) : Its K H' us ps := by
  obtain ⟨dx, t, h1, _⟩ := ha
  exact its_butN (fs := [("", .ref t)]) h1 e h
theorem prs_butA {K : Fg} {H H' : Hp} {a : Addr} {ys : List V} (ha : RowAt K H a ys) (e : ButN a H H') {us : List V} {ps : List (Int × Str)} (h : Prs H us ps) : Prs H' us ps := h.keep fun t xs g => e _ _ g (fun z => by
  obtain ⟨dx, t', h1, _⟩ := ha
  rw [z, h1] at g
  cases g) fun _ z => nomatch z
theorem lst_ne {K : Fg} {H : Hp} {a l : Addr} {ys rs : List V} (ha : RowAt K H a ys) (h : H l = some (.lst rs)) : l ≠ a := fun z => by
  obtain ⟨_, _, g1, _⟩ := ha
  rw [z, g1] at h
  cases h
end K10
namespace K10
open PySem PySem.Spec PyProof.Rows L2 He Tw
/-! ### the mathematics of the walk over all ranks -/
theorem takenL_rank {sign : Str} {ps qs : List (Int × Str)} {ns : List Int} {q : Int × Str} (h : q ∈ takenL sign ps qs ns) : q.1 ∈ ns := by
  obtain ⟨l, hl, hq⟩ := List.mem_flatten.mp h
  obtain ⟨r, hr, rfl⟩ := List.mem_map.mp hl
  rw [(ofRank_at hq).1]
  exact hr
theorem takenL_lenA {sign : Str} {ps qs : List (Int × Str)} {ns : List Int} (asc : ns.Pairwise (· < ·)) : (takenL sign ps qs ns).length ≤ ps.length + qs.length := by
  have h1 := sum_at (asc_nodup asc) ps
  have h2 := sum_at (asc_nodup asc) qs
  have : ∀ ms : List Int, (takenL sign ps qs ms).length ≤ (ms.map fun r => (at_ r ps).length).sum + (ms.map fun r => (at_ r qs).length).sum := by
    intro ms
    induction ms with
    | nil => exact Nat.zero_le _
    | cons m ms ih =>
      have e : takenL sign ps qs (m :: ms) = ofRank sign (at_ m ps) (at_ m qs) ++ takenL sign ps qs ms := rfl
      have := ofRank_len sign (at_ m ps) (at_ m qs)
      rw [e, List.length_append, List.map_cons, List.map_cons, List.sum_cons, List.sum_cons]
      omega
  have := this ns
  omega
theorem last_rank {L M : List (Int × Str)} {r : Int} (hM : M ≠ []) (h : ∀ q ∈ M, q.1 = r) : r ∈ rk ((L ++ M).drop ((L ++ M).length - 1)) := by
  have e : (L ++ M).length - 1 = L.length + (M.length - 1) := by
    have := List.length_pos_iff.mpr hM
    rw [List.length_append]
    omega
  rw [e, List.drop_append]
  have hl : M.drop (M.length - 1) ≠ [] := by
    intro z
    have := congrArg List.length z
    rw [List.length_drop] at this
    have h0 := List.length_pos_iff.mpr hM
    simp at this
    omega
  obtain ⟨q, hq⟩ := List.exists_mem_of_ne_nil _ hl
  have : q.1 = r := h q (List.mem_of_mem_drop hq)
  rw [← this]
  refine List.mem_map.mpr ⟨q, ?_, rfl⟩
  rw [List.mem_append]
  right
  have e2 : L.length + (M.length - 1) - L.length = M.length - 1 := by omega
  rw [e2]
  exact hq
theorem asc_max {ns : List Int} (asc : ns.Pairwise (· < ·)) {r : Int} (hr : r ∈ ns) (mx : ∀ k ∈ ns, k ≤ r) : ∃ ms, ns = ms ++ [r] := by
  obtain ⟨a, b, e⟩ := List.append_of_mem hr
  subst e
  cases b with
  | nil => exact ⟨a, rfl⟩
  | cons c b =>
    have h1 := (List.pairwise_append.mp asc).2.1
    have h2 := (List.pairwise_cons.mp h1).1 c List.mem_cons_self
    have h3 := mx c (by simp)
    omega
/-- the ranks walked so far -/
structure Wk (rs ns : List Int) : Prop where
  asc : ns.Pairwise (· < ·)
  mem : ∀ k, k ∈ ns ↔ k ∈ rs
theorem wk_skip {sign : Str} {ps qs : List (Int × Str)} {rs ns : List Int} {r : Int} (w : Wk rs ns) (h : r ∈ rk ((takenL sign ps qs ns).drop ((takenL sign ps qs ns).length - 1))) : Wk (rs ++ [r]) ns := by
  obtain ⟨q, hq, e⟩ := List.mem_map.mp h
  have m := takenL_rank (List.mem_of_mem_drop hq)
  refine ⟨w.asc, fun k => ?_⟩
  rw [List.mem_append, List.mem_singleton, w.mem k]
  refine ⟨.inl, fun z => z.elim id fun y => ?_⟩
  rw [y, ← w.mem, ← e]
  exact m
theorem wk_go {sign : Str} {ps qs : List (Int × Str)} {rs ns : List Int} {r : Int} (w : Wk rs ns) (mx : ∀ k ∈ rs, k ≤ r) (h : ¬ r ∈ rk ((takenL sign ps qs ns).drop ((takenL sign ps qs ns).length - 1))) :
    ∃ ns', Wk (rs ++ [r]) ns' ∧ takenL sign ps qs ns ++ ofRank sign (at_ r ps) (at_ r qs) = takenL sign ps qs ns' := by
  by_cases hr : r ∈ ns
  · obtain ⟨ms, e⟩ := asc_max w.asc hr fun k hk => mx k ((w.mem k).mp hk)
    have z : ofRank sign (at_ r ps) (at_ r qs) = [] := Classical.byContradiction fun y => h (by
      rw [e, takenL_snoc]
      exact last_rank y fun q hq => (ofRank_at hq).1)
    refine ⟨ns, ⟨w.asc, fun k => ?_⟩, by rw [z, List.append_nil]⟩
    rw [List.mem_append, List.mem_singleton, w.mem k]
    exact ⟨.inl, fun z => z.elim id fun y => by rw [y, ← w.mem]; exact hr⟩
  · refine ⟨ns ++ [r], ⟨?_, fun k => ?_⟩, (takenL_snoc _ _ _ _ _).symm⟩
    · refine List.pairwise_append.mpr ⟨w.asc, List.pairwise_singleton _ _, fun a ha b hb => ?_⟩
      rw [List.mem_singleton.mp hb]
      have h1 := mx a ((w.mem a).mp ha)
      have h2 : a ≠ r := fun e => hr (by rw [← e]; exact ha)
      omega
    · rw [List.mem_append, List.mem_append, List.mem_singleton, w.mem k]
theorem prs_blk {H : Hp} (r : Int) : ∀ {ys : List V} {ps : List (Int × Str)}, Prs H ys ps → Prs H (blk ys ps r) (at_ r ps)
  | _, _, .nil => .nil
  | _, _, .cons (b := p) (l₂ := ps) h t => by
    unfold blk at_
    by_cases e : p.1 = r
    · rw [if_pos e, List.filter_cons_of_pos (p := fun q : Int × Str => decide (q.1 = r)) (decide_eq_true e)]
      exact .cons h (prs_blk r t)
    · rw [if_neg e, List.filter_cons_of_neg (p := fun q : Int × Str => decide (q.1 = r)) (fun z => e (of_decide_eq_true z))]
      exact prs_blk r t
theorem inV_ints (r : Int) (ms : List Int) : inV (.int r) (ms.map V.int) = decide (r ∈ ms) := by
  unfold inV
  induction ms with
  | nil => rfl
  | cons m ms ih =>
    rw [List.map_cons, List.any_cons, ih]
    show (decide (m = r) || _) = _
    by_cases e : m = r
    · have h2 : decide (r ∈ m :: ms) = true := decide_eq_true (by rw [e]; exact List.mem_cons_self)
      rw [decide_eq_true e, h2]
      rfl
    · rw [decide_eq_false e, Bool.false_or]
      refine decide_eq_decide.mpr ?_
      rw [List.mem_cons]
      exact ⟨.inr, fun z => z.elim (fun y => absurd y.symm e) id⟩
theorem all_ints (ms : List Int) : (ms.map V.int).all flatV = true := by
  induction ms with
  | nil => rfl
  | cons m ms ih => rw [List.map_cons, List.all_cons, ih]; rfl
theorem cutLast (xs : List V) : cutV xs (some (-1)) none = xs.drop (xs.length - 1) := by
  unfold cutV
  have e : HT.sIx xs.length 0 (some (-1)) = xs.length - 1 := by
    unfold HT.sIx
    simp
    omega
  rw [HT.sIx_none, e]
  exact List.take_of_length_le (by rw [List.length_drop]; exact Nat.le_refl _)
theorem take_min {α : Type} (xs : List α) (n : Nat) : xs.take (if n < xs.length then n else xs.length) = xs.take n := by
  split
  · rfl
  · rw [List.take_of_length_le (Nat.le_refl _), List.take_of_length_le (by omega)]
theorem drop_min {α : Type} (xs : List α) (n : Nat) : xs.drop (if n < xs.length then n else xs.length) = xs.drop n := by
  split
  · rfl
  · rw [List.drop_of_length_le (Nat.le_refl _), List.drop_of_length_le (by omega)]
theorem drop_min2 {α : Type} (xs : List α) (n : Nat) : xs.drop (if xs.length < n then xs.length else n) = xs.drop n := by
  split
  · rw [List.drop_of_length_le (Nat.le_refl _), List.drop_of_length_le (by omega)]
  · rfl
def signs : List Str := ["+", "|", "&", "-", "^"]
/-- what an operator gives of pairs, told by the law -/
def spBag : Sp := fun vs H Q _ => ∃ (sign : Str) (f g : Addr) (ts us : List V) (ps qs : List (Int × Str)), vs = [.str sign, .ref f, .ref g] ∧ sign ∈ signs ∧ H f = some (.lst ts) ∧ Prs H ts ps ∧ ps.length ≤ 400 ∧ H g = some (.lst us) ∧ Prs H us qs ∧ qs.length ≤ 400 ∧
  ∀ (l : Addr) (H' : Hp) (zs : List V) (ns : List Int), Same H H' → H l = none → H' l = some (.lst zs) → Rks ps qs ns → Prs H' zs (takenL sign ps qs ns) → Q (.ref l) H'
abbrev s_bag : Stmt := topS 38
abbrev N_bag : List Str := ["_law_word", "_law_ones", "_law_others", "_law_found", "_law_rank", "_law_pair", "_law_mine", "_law_theirs", "_law_both"]
theorem sc_bag : FnScope N_bag ["_law_word", "_law_ones", "_law_others"] (defScope s_bag) := ⟨rfl, rfl, rfl, by decide +kernel, rfl, by decide +kernel, by decide +kernel⟩
theorem prs_app {H : Hp} {xs ys : List V} {ps qs : List (Int × Str)} (h : Prs H xs ps) (g : Prs H ys qs) : Prs H (xs ++ ys) (ps ++ qs) := paired_app g h
theorem prs_same {H H' : Hp} (e : Same H H') {xs : List V} {ps : List (Int × Str)} (h : Prs H xs ps) : Prs H' xs ps := h.keep fun t xs z => e _ _ z
theorem prs_drop {H : Hp} {xs : List V} {ps : List (Int × Str)} (n : Nat) (h : Prs H xs ps) : Prs H (xs.drop n) (ps.drop n) := paired_drop n h
section
variable {P : Program} {w : World} {K : Fg} {mg : Str → Option Value} {base : Heap} {fd : Nat → FuncData}
theorem ok_bag (D : DefsK K fd) (T : Txt K mg) : FnOk P w K mg base CX0 1 (ga K "_law_bag") (fd 30) ["_law_word", "_law_ones", "_law_others"] spBag := by
  have zsorted : mg "sorted" = none := T.bl (by decide +kernel)
  have zint : mg "int" = none := T.bl (by decide +kernel)
  have zlen : mg "len" = none := T.bl (by decide +kernel)
  have F : FnP K "_law_bag" "_law_bag" s_bag (ga K "_law_bag") (fd 30) := D 30 _ rfl
  refine F.ok sc_bag (fun vs H Q E h => ?_) (fun cdv A outer s H vs Q E hr h => ?_)
  · obtain ⟨sign, f, g, ts, us, ps, qs, rfl, _⟩ := h
    rfl
  · obtain ⟨sign, f, g, ts, us, ps, qs, rfl, hs, hf, prs1, lp, hg, prs2, lq, k⟩ := h
    refine ⟨_, PSs.nox (pss_cons (ps_set (i := 3) sc_bag.nd rfl (Or.inl rfl) (pe_lstN pa_nil))
    (pss_cons (ps_for PassesOwn.never rfl (pi_list (pe_callB cr_sortedI (by rfl) zsorted (by decide +kernel) (pa_cons (pe_lc (own := [("_law_pair", 5)]) (g := gName 5) (tt := tYes) (by rfl) sc_bag.nd (pi_list (pe_op op_catN (pv 1) (pv 2))) (blkOk_by (own := [("_law_pair", 5)]) (N := N_bag) (sc := defScope s_bag) (by decide +kernel)) (fun _ _ _ _ _ => (pg_name (i := 5) sc_bag.nd rfl (Or.inl rfl))) (fun _ _ _ _ _ => pts_nil) (fun _ _ _ _ _ => (pe_callTy call_int1 (by rfl) zint (by decide +kernel) (pa_cons (pe_ix (ixt K) (pv 5) pe_int (fun _ _ => rfl)) pa_nil)))) pa_nil))) (pg_name (i := 4) sc_bag.nd rfl (Or.inr rfl))
    (pss_one (ps_if (pt_cmpR op_notIn_seq (pv 4) (pe_lc (own := [("_law_pair", 5)]) (g := gName 5) (tt := tYes) (by rfl) sc_bag.nd (pi_list (pe_slice sl_listN (pv 3) (po_some (pe_un un_neg pe_int)) po_none)) (blkOk_by (own := [("_law_pair", 5)]) (N := N_bag) (sc := defScope s_bag) (by decide +kernel)) (fun _ _ _ _ _ => (pg_name (i := 5) sc_bag.nd rfl (Or.inl rfl))) (fun _ _ _ _ _ => pts_nil) (fun _ _ _ _ _ => (pe_ix (ixt K) (pv 5) pe_int (fun _ _ => rfl)))) rfl) (pss_cons (ps_setLc (i := 6) (own := [("_law_pair", 5)]) (g := gName 5) (by rfl) sc_bag.nd rfl rfl (sw_true rfl rfl rfl (by decide +kernel)) (pi_list (pv 1)) (blkOk_by (own := [("_law_pair", 5)]) (N := N_bag) (sc := defScope s_bag) (by decide +kernel)) (fun _ _ _ _ _ => (pg_name (i := 5) sc_bag.nd rfl (Or.inl rfl))) (fun _ _ _ _ _ => pts_one (pt_cmpR op_eq (pe_ix (ixt K) (pv 5) pe_int (fun _ _ => rfl)) (pv 4) (nomark _))) (fun _ _ _ _ _ => (pv 5)))
    (pss_cons (ps_setLc (i := 7) (own := [("_law_pair", 5)]) (g := gName 5) (by rfl) sc_bag.nd rfl rfl (sw_true rfl rfl rfl (by decide +kernel)) (pi_list (pv 2)) (blkOk_by (own := [("_law_pair", 5)]) (N := N_bag) (sc := defScope s_bag) (by decide +kernel)) (fun _ _ _ _ _ => (pg_name (i := 5) sc_bag.nd rfl (Or.inl rfl))) (fun _ _ _ _ _ => pts_one (pt_cmpR op_eq (pe_ix (ixt K) (pv 5) pe_int (fun _ _ => rfl)) (pv 4) (nomark _))) (fun _ _ _ _ _ => (pv 5)))
    (pss_cons (ps_set (i := 8) sc_bag.nd rfl (Or.inl rfl) (pe_ix ix_list (pe_lstN (pa_cons (pe_callB call_len (by rfl) zlen (by decide +kernel) (pa_cons (pv 6) pa_nil)) (pa_cons (pe_callB call_len (by rfl) zlen (by decide +kernel) (pa_cons (pv 7) pa_nil)) pa_nil))) (pe_callTy call_int1 (by rfl) zint (by decide +kernel) (pa_cons (pe_cmpR op_lt (pe_callB call_len (by rfl) zlen (by decide +kernel) (pa_cons (pv 7) pa_nil)) (pe_callB call_len (by rfl) zlen (by decide +kernel) (pa_cons (pv 6) pa_nil)) (nomark _)) pa_nil)) (fun _ _ => rfl)))
    (pss_one (ps_if (pt_cmpR op_eq (pv 0) pe_str (nomark _)) (pss_one (ps_set (i := 3) sc_bag.nd rfl (Or.inl rfl) (pe_op op_catN (pe_op op_catN (pv 3) (pv 6)) (pv 7)))) (pss_one (ps_if (pt_cmpR op_eq (pv 0) pe_str (nomark _)) (pss_one (ps_set (i := 3) sc_bag.nd rfl (Or.inl rfl) (pe_op op_catN (pe_op op_catN (pv 3) (pv 6)) (pe_slice sl_listN (pv 7) (po_some (pe_callB call_len (by rfl) zlen (by decide +kernel) (pa_cons (pv 6) pa_nil))) po_none)))) (pss_one (ps_if (pt_cmpR op_eq (pv 0) pe_str (nomark _)) (pss_one (ps_set (i := 3) sc_bag.nd rfl (Or.inl rfl) (pe_op op_catN (pv 3) (pe_slice sl_listN (pv 6) po_none (po_some (pv 8)))))) (pss_one (ps_if (pt_cmpR op_eq (pv 0) pe_str (nomark _)) (pss_one (ps_set (i := 3) sc_bag.nd rfl (Or.inl rfl) (pe_op op_catN (pv 3) (pe_slice sl_listN (pv 6) (po_some (pv 8)) po_none)))) (pss_one (ps_set (i := 3) sc_bag.nd rfl (Or.inl rfl) (pe_op op_catN (pe_op op_catN (pv 3) (pe_slice sl_listN (pv 6) (po_some (pv 8)) po_none)) (pe_slice sl_listN (pv 7) (po_some (pv 8)) po_none))))))))))))))) pss_nil)))
    (pss_one (ps_ret (pv 3))))), ?_⟩
    have l1 : ts.length = ps.length := Paired.length prs1
    have l2 : us.length = qs.length := Paired.length prs2
    refine ⟨sz1000 (by show 0 ≤ 1000; decide), fun l0 H1 f1 m1 s1 g1 => ?_⟩
    dsimp only [gName]
    unfold tSeq
    have lim : ∀ {n m : Nat}, n ≤ 3000 → m ≤ 3000 → n + m ≤ sizeLine := fun {n m} h1 h2 => Nat.le_trans (show n + m ≤ 6000 by omega) (by decide)
    refine ⟨_, rfl, _, rfl, f, g, ts, us, rfl, rfl, s1 _ _ hf, s1 _ _ hg, lim (by omega) (by omega), fun c2 H2 f2 m2 s2 g2 => ?_⟩
    have s02 := s1.trans s2
    have pab : Prs H2 (ts ++ us) (ps ++ qs) := prs_app (prs_same s02 prs1) (prs_same s02 prs2)
    refine ⟨c2, rfl, ⟨_, SqL.of g2⟩, fun D1 hD => lc_list (K := K) (a := c2) (xs := ts ++ us) (fun i H' => Same H2 H' ∧ H' D1 = some (.lst ((rk ((ps ++ qs).take i)).map V.int))) ⟨same_new hD, upd_same⟩ (fun i H' _ q => SqL.of (q.1 _ _ g2)) ?_ ?_⟩
    · rintro i x H3 hx ⟨s3, gD⟩
      obtain ⟨t, p, rfl, ep, ht⟩ := prs_at pab hx
      refine ⟨rfl, _, rfl, t, _, 0, .int p.1, rfl, rfl, SqT.of (s3 _ _ ht), rfl, .inl ⟨_, rfl, _, gD, ?_, same_upd s3 hD, ?_⟩⟩
      · have lt : i < (ps ++ qs).length := (List.getElem?_eq_some_iff.mp ep).1
        rw [List.length_append] at lt
        refine Nat.lt_of_le_of_lt (m := i) ?_ (Nat.lt_of_lt_of_le (show i < 1000 by omega) (by decide))
        unfold rk
        rw [List.length_map, List.length_map, List.length_take]
        omega
      · rw [upd_same, List.take_add_one, ep]
        unfold rk
        simp
    rintro H3 ⟨s3, gD⟩
    rw [List.take_of_length_le (by rw [← (show (ts ++ us).length = (ps ++ qs).length from Paired.length pab)]; exact Nat.le_refl _)] at gD
    refine ⟨D1, _, rfl, SqL.of gD, fun rs p perm asc hp => ?_⟩
    have s4 := same_new (o := .lst (rs.map V.int)) hp
    have g4 : (upd H3 p (.lst (rs.map V.int))) p = some (.lst (rs.map V.int)) := upd_same
    generalize upd H3 p (.lst (rs.map V.int)) = H4 at s4 g4 ⊢
    have s14 := s2.trans (s3.trans s4)
    have hl0 : H l0 = none := f1
    refine ⟨p, rfl, ⟨_, SqL.of g4⟩, for_list (K := K) (a := p) (xs := rs.map V.int) (fun i σ H' => ∃ (l : Addr) (v4 v6 v7 v8 : Option V) (zs : List V) (ns : List Int), σ = [some (.str sign), some (.ref f), some (.ref g), some (.ref l), v4, none, v6, v7, v8] ∧ Same H4 H' ∧ H l = none ∧ H' l = some (.lst zs) ∧ Prs H' zs (takenL sign ps qs ns) ∧ Wk (rs.take i) ns)
        ⟨l0, none, none, none, none, [], [], rfl, (fun _ _ z => z), hl0, s14 _ _ g1, .nil, ⟨List.Pairwise.nil, fun k => ⟨(fun z => nomatch z), (fun z => nomatch z)⟩⟩⟩ (fun i σ H' _ ⟨_, _, _, _, _, _, _, _, s', _⟩ => SqL.of (s' _ _ g4)) ?_ ?_⟩
    · rintro i x σ H5 hx ⟨l, v4, v6, v7, v8, zs, ns, rfl, s5, hl, gl, pz, wk⟩
      rw [List.getElem?_map] at hx
      cases er : rs[i]? with
      | none =>
        rw [er] at hx
        cases hx
      | some r =>
        rw [er] at hx
        cases hx
        have tk : rs.take (i + 1) = rs.take i ++ [r] := by rw [List.take_add_one, er]; rfl
        have mx : ∀ k ∈ rs.take i, k ≤ r := fun j hj => by
          obtain ⟨n, hn, e⟩ := List.mem_iff_getElem.mp hj
          obtain ⟨hi, e2⟩ := List.getElem?_eq_some_iff.mp er
          rw [List.length_take] at hn
          rw [List.getElem_take] at e
          rw [← e, ← e2]
          exact List.pairwise_iff_getElem.mp asc n i (by omega) hi (by omega)
        have lz : zs.length = (takenL sign ps qs ns).length := Paired.length pz
        have lL : (takenL sign ps qs ns).length ≤ 800 := by
          have := takenL_lenA (sign := sign) (ps := ps) (qs := qs) wk.asc
          omega
        refine ⟨_, rfl, _, rfl, _, rfl, _, rfl, l, zs, rfl, SqL.of gl, fun c6 H6 f6 s6 g6 => ?_⟩
        rw [cutLast] at g6
        have pd : Prs H6 (zs.drop (zs.length - 1)) ((takenL sign ps qs ns).drop (zs.length - 1)) := prs_drop _ (prs_same s6 pz)
        refine ⟨c6, rfl, ⟨_, SqL.of g6⟩, fun D2 hD2 => lc_list (K := K) (a := c6) (xs := zs.drop (zs.length - 1)) (fun j H' => Same H6 H' ∧ H' D2 = some (.lst ((rk (((takenL sign ps qs ns).drop (zs.length - 1)).take j)).map V.int))) ⟨same_new hD2, upd_same⟩ (fun j H' _ q => SqL.of (q.1 _ _ g6)) ?_ ?_⟩
        · rintro j x H7 hx ⟨s7, gD7⟩
          obtain ⟨t, p0, rfl, ep, ht⟩ := prs_at pd hx
          refine ⟨rfl, _, rfl, t, _, 0, .int p0.1, rfl, rfl, SqT.of (s7 _ _ ht), rfl, _, gD7, ?_, same_upd s7 hD2, ?_⟩
          · have lt : j < ((takenL sign ps qs ns).drop (zs.length - 1)).length := (List.getElem?_eq_some_iff.mp ep).1
            rw [List.length_drop] at lt
            refine Nat.lt_of_le_of_lt (m := j) ?_ (Nat.lt_of_lt_of_le (show j < 1000 by omega) (by decide))
            unfold rk
            rw [List.length_map, List.length_map, List.length_take]
            omega
          · rw [upd_same, List.take_add_one, ep]
            unfold rk
            simp
        rintro H7 ⟨s7, gD7⟩
        rw [List.take_of_length_le (by rw [List.length_drop, List.length_drop]; omega), lz] at gD7
        have s57 := s6.trans s7
        refine ⟨D2, _, rfl, .inl (SqL.of gD7), rfl, all_ints _, _, rfl, ?_⟩
        rw [inV_ints]
        refine ite2 (fun hz => ?_) (fun hz => ?_)
        · have nr : ¬ r ∈ rk ((takenL sign ps qs ns).drop ((takenL sign ps qs ns).length - 1)) := fun z => by
            rw [decide_eq_true z] at hz
            cases hz
          obtain ⟨ns', wk', eL⟩ := wk_go wk mx nr
          have s07 := (s1.trans (s14.trans s5)).trans s57
          refine ⟨_, rfl, f, rfl, ⟨_, SqL.of (s07 _ _ hf)⟩, fun D3 hD3 => lc_list (K := K) (a := f) (xs := ts) (fun j H' => Same H7 H' ∧ H' D3 = some (.lst (blk (ts.take j) (ps.take j) r))) ⟨same_new hD3, upd_same⟩ (fun j H' _ q => SqL.of (q.1 _ _ (s07 _ _ hf))) ?_ ?_⟩
          · rintro j x H' hx ⟨s', gD'⟩
            obtain ⟨t, p0, rfl, ep, ht⟩ := prs_at (prs_same s07 prs1) hx
            have tkx : ts.take (j + 1) = ts.take j ++ [.ref t] := by rw [List.take_add_one, hx]; rfl
            have tkp : ps.take (j + 1) = ps.take j ++ [p0] := by rw [List.take_add_one, ep]; rfl
            have lj : (ts.take j).length = (ps.take j).length := by rw [List.length_take, List.length_take, l1]
            have lb := blk_len r (ts.take j) (ps.take j)
            refine ⟨rfl, _, rfl, t, _, 0, .int p0.1, rfl, rfl, SqT.of (s' _ _ ht), rfl, _, rfl, rfl, _, rfl, ?_⟩
            rw [dec_i]
            refine ite2 (fun hz' => ?_) (fun hz' => ?_)
            · refine ⟨_, rfl, _, gD', ?_, same_upd s' hD3, ?_⟩
              · refine Nat.lt_of_le_of_lt lb (Nat.lt_of_lt_of_le (show (ts.take j).length < 1000 by rw [List.length_take]; omega) (by decide))
              · rw [upd_same, tkx, tkp, blk_snoc _ _ _ lj, if_pos (of_decide_eq_true hz')]
            · refine ⟨s', ?_⟩
              rw [gD', tkx, tkp, blk_snoc _ _ _ lj, if_neg (fun z => hz' (decide_eq_true z))]
          rintro H8 ⟨s8, gM⟩
          rw [List.take_of_length_le (Nat.le_refl _), List.take_of_length_le (by omega)] at gM
          have s08 := s07.trans s8
          refine ⟨_, rfl, g, rfl, ⟨_, SqL.of (s08 _ _ hg)⟩, fun D4 hD4 => lc_list (K := K) (a := g) (xs := us) (fun j H' => Same H8 H' ∧ H' D4 = some (.lst (blk (us.take j) (qs.take j) r))) ⟨same_new hD4, upd_same⟩ (fun j H' _ q => SqL.of (q.1 _ _ (s08 _ _ hg))) ?_ ?_⟩
          · rintro j x H' hx ⟨s', gD'⟩
            obtain ⟨t, p0, rfl, ep, ht⟩ := prs_at (prs_same s08 prs2) hx
            have tkx : us.take (j + 1) = us.take j ++ [.ref t] := by rw [List.take_add_one, hx]; rfl
            have tkp : qs.take (j + 1) = qs.take j ++ [p0] := by rw [List.take_add_one, ep]; rfl
            have lj : (us.take j).length = (qs.take j).length := by rw [List.length_take, List.length_take, l2]
            have lb := blk_len r (us.take j) (qs.take j)
            refine ⟨rfl, _, rfl, t, _, 0, .int p0.1, rfl, rfl, SqT.of (s' _ _ ht), rfl, _, rfl, rfl, _, rfl, ?_⟩
            rw [dec_i]
            refine ite2 (fun hz' => ?_) (fun hz' => ?_)
            · refine ⟨_, rfl, _, gD', ?_, same_upd s' hD4, ?_⟩
              · refine Nat.lt_of_le_of_lt lb (Nat.lt_of_lt_of_le (show (us.take j).length < 1000 by rw [List.length_take]; omega) (by decide))
              · rw [upd_same, tkx, tkp, blk_snoc _ _ _ lj, if_pos (of_decide_eq_true hz')]
            · refine ⟨s', ?_⟩
              rw [gD', tkx, tkp, blk_snoc _ _ _ lj, if_neg (fun z => hz' (decide_eq_true z))]
          rintro H9 ⟨s9, gT⟩
          rw [List.take_of_length_le (Nat.le_refl _), List.take_of_length_le (by omega)] at gT
          have gM9 := s9 _ _ gM
          have gl9 := (s57.trans (s8.trans s9)) _ _ gl
          have lm := blk_len r ts ps
          have lt := blk_len r us qs
          have pM := prs_same (s08.trans s9) (prs_blk r prs1)
          have pT := prs_same (s08.trans s9) (prs_blk r prs2)
          generalize hm : blk ts ps r = ms at gM9 lm pM
          generalize ht : blk us qs r = hs' at gT lt pT
          refine ⟨_, rfl, _, _, rfl, .inl ⟨_, SqL.of gM9, rfl⟩, _, rfl, _, _, rfl, .inl ⟨_, SqL.of gT, rfl⟩, sz1000 (by show 2 ≤ 1000; decide), fun q10 H10 f10 m10 s10 g10 => ?_⟩
          refine ⟨_, rfl, _, _, rfl, .inl ⟨_, SqL.of (s10 _ _ gT), rfl⟩, _, rfl, _, _, rfl, .inl ⟨_, SqL.of (s10 _ _ gM9), rfl⟩, _, _, rfl, rfl, .inr ⟨_, rfl, ?_⟩⟩
          have gM10 := s10 _ _ gM9
          have gT10 := s10 _ _ gT
          have gl10 := s10 _ _ gl9
          refine ⟨q10, _, _, .int ((if hs'.length < ms.length then hs'.length else ms.length : Nat)), rfl, rfl, SqL.of g10, ?_, ?_⟩
          · by_cases hlt : hs'.length < ms.length
            · have e1 : decide ((hs'.length : Int) < (ms.length : Int)) = true := decide_eq_true (by omega)
              rw [e1, if_pos hlt]
              rfl
            · have e1 : decide ((hs'.length : Int) < (ms.length : Int)) = false := decide_eq_false (by omega)
              rw [e1, if_neg hlt]
              rfl
          have pz10 := prs_same (s57.trans (s8.trans (s9.trans s10))) pz
          have pM10 := prs_same s10 pM
          have pT10 := prs_same s10 pT
          have s510 := s57.trans (s8.trans (s9.trans s10))
          have back : ∀ {H' : Hp} {l' : Addr} {v : Option V} {zs' : List V}, Same H10 H' → H10 l' = none → H' l' = some (.lst zs') → zs' = zs ++ ofRank sign ms hs' → ∃ (l : Addr) (v4 v6 v7 v8 : Option V) (zs : List V) (ns : List Int), [some (.str sign), some (.ref f), some (.ref g), some (.ref l'), some (.int r), none, some (.ref D3), some (.ref D4), v] = [some (.str sign), some (.ref f), some (.ref g), some (.ref l), v4, none, v6, v7, v8] ∧ Same H4 H' ∧ H l = none ∧ H' l = some (.lst zs) ∧ Prs H' zs (takenL sign ps qs ns) ∧ Wk (rs.take (i + 1)) ns := fun {H' l' v zs'} s' f' g' e' => by
            refine ⟨l', _, _, _, _, zs', ns', rfl, s5.trans (s510.trans s'), ?_, g', ?_, by rw [tk]; exact wk'⟩
            · cases q : H l' with
              | none => rfl
              | some o =>
                rw [((s1.trans (s14.trans s5)).trans s510) _ _ q] at f'
                cases f'
            · rw [e', ← eL]
              exact prs_app (prs_same s' pz10) (paired_ofRank sign (prs_same s' pM10) (prs_same s' pT10))
          have lm9 : ms.length ≤ 400 := by omega
          have lt9 : hs'.length ≤ 400 := by omega
          have o1 : ∀ {H' : Hp} {p : Addr} {o : HO}, Same H10 H' → H' p = none → H10 p = none := fun {H' p o} s' h => by
            cases q : H10 p with
            | none => rfl
            | some o =>
              rw [s' _ _ q] at h
              cases h
          refine ⟨_, rfl, rfl, _, rfl, ?_⟩
          refine ite2 (fun hz => ?_) (fun h1 => ?_)
          · have e : sign = "+" := by rw [dec_s] at hz; exact of_decide_eq_true hz
            refine ⟨_, rfl, _, rfl, l, D3, zs, ms, rfl, rfl, gl10, gM10, lim (by omega) (by omega), fun c H11 f11 m11 s11 g11 => ?_⟩
            refine ⟨_, rfl, c, D4, _, hs', rfl, rfl, g11, s11 _ _ gT10, lim (by rw [List.length_append]; omega) (by omega), fun c2 H12 f12 m12 s12 g12 => ?_⟩
            refine back (s11.trans s12) (o1 (o := .xd []) s11 f12) g12 ?_
            rw [e, List.append_assoc]
            rfl
          have n1 : sign ≠ "+" := fun e => h1 (by rw [e]; rfl)
          refine ⟨_, rfl, rfl, _, rfl, ?_⟩
          refine ite2 (fun hz => ?_) (fun h2 => ?_)
          · have e : sign = "|" := by rw [dec_s] at hz; exact of_decide_eq_true hz
            refine ⟨_, rfl, _, rfl, l, D3, zs, ms, rfl, rfl, gl10, gM10, lim (by omega) (by omega), fun c H11 f11 m11 s11 g11 => ?_⟩
            refine ⟨_, rfl, _, rfl, _, _, rfl, .inl ⟨_, SqL.of (s11 _ _ gM10), rfl⟩, _, rfl, D4, hs', rfl, SqL.of (s11 _ _ gT10), fun c2 H12 f12 s12 g12 => ?_⟩
            rw [cutDrop] at g12
            refine ⟨c, c2, _, _, rfl, rfl, s12 _ _ g11, g12, lim (by rw [List.length_append]; omega) (by rw [List.length_drop]; omega), fun c3 H13 f13 m13 s13 g13 => ?_⟩
            refine back (s11.trans (s12.trans s13)) (o1 (o := .xd []) (s11.trans s12) f13) g13 ?_
            rw [e, List.append_assoc]
            rfl
          have n2 : sign ≠ "|" := fun e => h2 (by rw [e]; rfl)
          refine ⟨_, rfl, rfl, _, rfl, ?_⟩
          refine ite2 (fun hz => ?_) (fun h3 => ?_)
          · have e : sign = "&" := by rw [dec_s] at hz; exact of_decide_eq_true hz
            refine ⟨_, rfl, _, rfl, _, rfl, _, rfl, D3, ms, rfl, SqL.of gM10, fun c H11 f11 s11 g11 => ?_⟩
            rw [cutTake, take_min] at g11
            refine ⟨l, c, _, _, rfl, rfl, s11 _ _ gl10, g11, lim (by omega) (by rw [List.length_take]; omega), fun c2 H12 f12 m12 s12 g12 => ?_⟩
            refine back (s11.trans s12) (o1 (o := .xd []) s11 f12) g12 ?_
            rw [e]
            rfl
          have n3 : sign ≠ "&" := fun e => h3 (by rw [e]; rfl)
          refine ⟨_, rfl, rfl, _, rfl, ?_⟩
          refine ite2 (fun hz => ?_) (fun h4 => ?_)
          · have e : sign = "-" := by rw [dec_s] at hz; exact of_decide_eq_true hz
            refine ⟨_, rfl, _, rfl, _, rfl, _, rfl, D3, ms, rfl, SqL.of gM10, fun c H11 f11 s11 g11 => ?_⟩
            rw [cutDrop, drop_min] at g11
            refine ⟨l, c, _, _, rfl, rfl, s11 _ _ gl10, g11, lim (by omega) (by rw [List.length_drop]; omega), fun c2 H12 f12 m12 s12 g12 => ?_⟩
            refine back (s11.trans s12) (o1 (o := .xd []) s11 f12) g12 ?_
            rw [e]
            rfl
          have n4 : sign ≠ "-" := fun e => h4 (by rw [e]; rfl)
          refine ⟨_, rfl, _, rfl, _, rfl, _, rfl, D3, ms, rfl, SqL.of gM10, fun c H11 f11 s11 g11 => ?_⟩
          rw [cutDrop, drop_min] at g11
          refine ⟨l, c, _, _, rfl, rfl, s11 _ _ gl10, g11, lim (by omega) (by rw [List.length_drop]; omega), fun c2 H12 f12 m12 s12 g12 => ?_⟩
          refine ⟨_, rfl, _, rfl, _, rfl, D4, hs', rfl, SqL.of ((s11.trans s12) _ _ gT10), fun c3 H13 f13 s13 g13 => ?_⟩
          have dm : hs'.drop (if hs'.length < ms.length then hs'.length else ms.length) = hs'.drop ms.length := drop_min2 hs' ms.length
          rw [cutDrop, dm] at g13
          refine ⟨c2, c3, _, _, rfl, rfl, s13 _ _ g12, g13, lim (by rw [List.length_append, List.length_drop]; omega) (by rw [List.length_drop]; omega), fun c4 H14 f14 m14 s14' g14 => ?_⟩
          refine back (s11.trans (s12.trans (s13.trans s14'))) (o1 (o := .xd []) (s11.trans (s12.trans s13)) f14) g14 ?_
          unfold ofRank
          rw [if_neg n1, if_neg n2, if_neg n3, if_neg n4, List.append_assoc]
        · have yr : r ∈ rk ((takenL sign ps qs ns).drop ((takenL sign ps qs ns).length - 1)) := Classical.byContradiction fun z => hz (by rw [decide_eq_false z]; rfl)
          exact ⟨l, _, v6, v7, v8, zs, ns, rfl, s5.trans s57, hl, s57 _ _ gl, prs_same s57 pz, by rw [tk]; exact wk_skip wk yr⟩
    · rintro σ H5 ⟨l, v4, v6, v7, v8, zs, ns, rfl, s5, hl, gl, pz, wk⟩
      refine ⟨_, rfl, k l H5 zs ns (s1.trans (s14.trans s5)) hl gl ⟨wk.asc, fun j => ?_⟩ pz⟩
      rw [wk.mem j, List.take_of_length_le (by rw [List.length_map]; exact Nat.le_refl _), perm.mem_iff]
      exact rk_app
end
end K10
namespace K10
open PySem PySem.Spec PyProof.Rows L2 He Tw
abbrev s_fall : Stmt := topS 39
abbrev N_fall : List Str := ["_law_pairs_here", "_law_found", "_law_k"]
theorem sc_fall : FnScope N_fall ["_law_pairs_here"] (defScope s_fall) := ⟨rfl, rfl, rfl, by decide +kernel, rfl, by decide +kernel, by decide +kernel⟩
/-- the first descent is at 1 + k -/
def FallK (ps : List (Int × Str)) (k : Nat) : Prop := ∃ a b : Int × Str, ps[k]? = some a ∧ ps[k + 1]? = some b ∧ b.1 < a.1 ∧ Up ps k
def spFall : Sp := fun vs H Q _ => ∃ (f : Addr) (ts : List V) (ps : List (Int × Str)), vs = [.ref f] ∧ H f = some (.lst ts) ∧ Prs H ts ps ∧ ps.length ≤ 900 ∧ (Up ps ps.length → ∀ H', Same H H' → Q .non H') ∧ ∀ k, FallK ps k → ∀ H', Same H H' → Q (.int (1 + (k : Int))) H'
def Found (ps : List (Int × Str)) (i : Nat) (ks : List Int) : Prop := (ks = [] ∧ Up ps i) ∨ ∃ (k : Nat) (a b : Int × Str) (rest : List Int), ks = (1 + (k : Int)) :: rest ∧ ps[k]? = some a ∧ ps[k + 1]? = some b ∧ b.1 < a.1 ∧ Up ps k
section
variable {P : Program} {w : World} {K : Fg} {mg : Str → Option Value} {base : Heap} {fd : Nat → FuncData}
theorem G_fall (D : DefsK K fd) (T : Txt K mg) : FnOk P w K mg base CX0 1 (ga K "_law_fall") (fd 31) ["_law_pairs_here"] spFall := by
  have zr : mg "range" = none := T.bl (by decide +kernel)
  have zlen : mg "len" = none := T.bl (by decide +kernel)
  have F : FnP K "_law_fall" "_law_fall" s_fall (ga K "_law_fall") (fd 31) := D 31 _ rfl
  refine F.ok sc_fall (fun vs H Q E h => ?_) (fun cdv A outer s H vs Q E hr h => ?_)
  · obtain ⟨f, ts, ps, rfl, _⟩ := h
    rfl
  · obtain ⟨f, ts, ps, rfl, hf, prs, hn, k1, k2⟩ := h
    have ll : ts.length = ps.length := Paired.length prs
    refine ⟨_, PSs.nox (pss_cons (ps_setLc (i := 1) (own := [("_law_k", 2)]) (g := gName 2) (by rfl) sc_fall.nd rfl rfl (sw_true rfl rfl rfl (by decide +kernel)) (pi_range2 rfl zr (pa_cons pe_int (pa_cons (pe_callB call_len (by rfl) zlen (by decide +kernel) (pa_cons (pv 0) pa_nil)) pa_nil))) (blkOk_by (own := [("_law_k", 2)]) (N := N_fall) (sc := defScope s_fall) (by decide +kernel)) (fun _ _ _ _ _ => (pg_name (i := 2) sc_fall.nd rfl (Or.inl rfl))) (fun _ _ _ _ _ => pts_one (pt_cmpR op_lt (pe_ix (ixt K) (pe_ix (ixl K) (pv 0) (pv 2) (fun _ _ => rfl)) pe_int (fun _ _ => rfl)) (pe_ix (ixt K) (pe_ix (ixl K) (pv 0) (pe_op op_sub (pv 2) pe_int) (fun _ _ => rfl)) pe_int (fun _ _ => rfl)) (nomark _))) (fun _ _ _ _ _ => (pv 2)))
    (pss_one (ps_ret (pe_ifExp (pt_cmpR (op_neD hr.units) (pv 1) (pe_lstN pa_nil) (nomark _)) (pe_ix ix_list (pv 1) pe_int (fun _ _ => rfl)) pe_non)))), ?_⟩
    refine ⟨_, rfl, _, _, rfl, .inl ⟨_, SqL.of hf, rfl⟩, 1, (ts.length : Int), rfl, ⟨by decide, by decide, by omega, by omega⟩, fun D1 hD => lc_range (lo := 1) (n := ((ts.length : Int) - 1).toNat) (fun i H' => Same H H' ∧ ∃ ks : List Int, H' D1 = some (.lst (ks.map V.int)) ∧ ks.length ≤ i ∧ Found ps i ks) ⟨same_new hD, [], upd_same, Nat.zero_le _, .inl ⟨rfl, fun m a b h => absurd h (Nat.not_lt_zero _)⟩⟩ ?_ ?_⟩
    · rintro i H1 hi ⟨s1, ks, gD, lk, fk⟩
      have h1 : i < ps.length := by omega
      have h2 : i + 1 < ps.length := by omega
      obtain ⟨t1, p1, e1, q1, g1⟩ := prs_at prs (List.getElem?_eq_getElem (show i + 1 < ts.length by omega))
      obtain ⟨t0, p0, e0, q0, g0⟩ := prs_at prs (List.getElem?_eq_getElem (show i < ts.length by omega))
      refine ⟨rfl, _, rfl, _, rfl, f, ts, _, .ref t1, rfl, rfl, SqL.of (s1 _ _ hf), atI_of (by omega) (by rw [show (1 + (i : Int)).toNat = i + 1 by omega, List.getElem?_eq_getElem (show i + 1 < ts.length by omega), e1]), ?_⟩
      refine ⟨t1, _, 0, .int p1.1, rfl, rfl, SqT.of (s1 _ _ g1), rfl, ?_⟩
      refine ⟨_, rfl, _, rfl, _, _, rfl, rfl, f, ts, _, .ref t0, rfl, rfl, SqL.of (s1 _ _ hf), atI_of (by omega) (by rw [show (1 + (i : Int) - 1).toNat = i by omega, List.getElem?_eq_getElem (show i < ts.length by omega), e0]), ?_⟩
      refine ⟨t0, _, 0, .int p0.1, rfl, rfl, SqT.of (s1 _ _ g0), rfl, _, _, rfl, rfl, _, rfl, ?_⟩
      refine ite2 (fun h => ?_) (fun h => ?_)
      · refine ⟨_, rfl, _, gD, ?_, ?_, ks ++ [1 + (i : Int)], ?_, ?_, ?_⟩
        · rw [List.length_map]
          exact Nat.lt_of_lt_of_le (show ks.length < 1000 by omega) (by decide)
        · exact fun b' o' hb' => by
            rw [upd_ne (ne_of_none hb' hD)]
            exact s1 b' o' hb'
        · rw [upd_same, List.map_append]
          rfl
        · rw [List.length_append]
          show ks.length + 1 ≤ i + 1
          omega
        · rcases fk with ⟨rfl, up⟩ | ⟨k0, a, b, rest, rfl, r⟩
          · exact .inr ⟨i, p0, p1, [], rfl, q0, q1, of_decide_eq_true h, up⟩
          · exact .inr ⟨k0, a, b, rest ++ [1 + (i : Int)], rfl, r⟩
      · refine ⟨s1, ks, gD, by omega, ?_⟩
        rcases fk with ⟨rfl, up⟩ | r
        · refine .inl ⟨rfl, fun m a b hm ea eb => ?_⟩
          by_cases hmi : m < i
          · exact up m a b hmi ea eb
          · have e : m = i := by omega
            subst e
            rw [q0] at ea
            rw [q1] at eb
            cases ea
            cases eb
            have z : ¬ (p1.1 < p0.1) := fun y => h (decide_eq_true y)
            omega
        · exact .inr r
    · rintro H1 ⟨s1, ks, gD, lk, fk⟩
      refine ⟨_, rfl, sz1000 (by show 0 ≤ 1000; decide), fun q2 H2 f2 m2 s2 g2 => ⟨.list (ks.map .int), .list [], .lst (SqL.of (s2 _ _ gD)) (dp_ints ks), .lst (SqL.of g2) .nil, shaped_ints ks, shaped_ints [], ?_⟩⟩
      rcases fk with ⟨rfl, up⟩ | ⟨k0, a, b, rest, rfl, ea, eb, hlt, up⟩
      · refine ⟨_, rfl, iteF ?_⟩
        refine k1 (fun m a b hm ea eb => ?_) H2 (s1.trans s2)
        have h2 : m + 1 < ps.length := (List.getElem?_eq_some_iff.mp eb).1
        exact up m a b (by omega) ea eb
      · refine ⟨_, rfl, iteT ?_⟩
        refine ⟨_, rfl, D1, _, 0, .int (1 + (k0 : Int)), rfl, rfl, SqL.of (s2 _ _ gD), atI_gen (by decide) rfl, ?_⟩
        exact k2 k0 ⟨a, b, ea, eb, hlt, up⟩ H2 (s1.trans s2)
end
end K10
namespace K10
open PySem PySem.Spec PyProof.Rows L2 He Tw
abbrev s_sl : Stmt := inClass (topS 27) 32
abbrev N_sl : List Str := ["self", "by", "items", "answers", "order", "item", "k"]
theorem sc_sl : FnScope N_sl ["self", "by"] (defScope s_sl) := ⟨rfl, rfl, rfl, by decide +kernel, rfl, by decide +kernel, by decide +kernel⟩
/-- what the callable does: it answers o, or lets an error out -/
def Ansd (sl : Sp) (E : XK) (H : Hp) (o : V → Option V) (ys : List V) : Prop := ∀ y ∈ ys, ∀ (H' : Hp) (Q' : VK), Same H H' → (∀ v, o y = some v → ∀ H'', Same H' H'' → Q' v H'') → sl [y] H' Q' E
def spSl (P : Program) (w : World) (K : Fg) (mg : Str → Option Value) (base : Heap) : Sp := fun vs H Q E => ∃ (a f dx t : Addr) (ys : List V) (ps : List (Int × Str)) (sl : Sp) (o : V → Option V), vs = [.ref a, .ref f] ∧
  H a = some (.ins (ga K "Row") dx [("state", .ref t)]) ∧ H t = some (.tup ys) ∧ Its K H ys ps ∧ ps.length ≤ 400 ∧ PySem.W.FnAt f base ∧ FnR P w K mg base (L2.CX P w) 6 f sl ∧ Tk K H ∧ Ansd sl E H o ys ∧
  ((∃ y ∈ ys, o y = none) ∨ ∃ wy, (∀ (i : Nat) (y : V) (p : Int × Str), ys[i]? = some y → ps[i]? = some p → o y = some (ansV wy p.2)) ∧
    ∀ (H' : Hp) (t' : Addr) (ys' : List V), ButN a H H' → Tk K H' → H' a = some (.ins (ga K "Row") dx [("state", .ref t')]) → H' t' = some (.tup ys') → Its K H' ys' (ps.mergeSort (leP wy)) → Q .non H')
section
variable {P : Program} {w : World} {K : Fg} {mg : Str → Option Value} {base : Heap} {fd : Nat → FuncData}
theorem G_sl (D : DefsK K fd) (T : Txt K mg) (tb : TBs K mg base) : FnOk P w K mg base (L2.CX P w) 8 (ma K (ga K "Row") "settle") (fd 46) ["self", "by"] (spSl P w K mg base) := by
  have zlen : mg "len" = none := T.bl (by decide +kernel)
  have zr : mg "range" = none := T.bl (by decide +kernel)
  have zlist : mg "list" = none := T.bl (by decide +kernel)
  have ztup : mg "tuple" = none := T.bl (by decide +kernel)
  have zs : mg "sorted" = none := T.bl (by decide +kernel)
  have TB := tb (fun K => ma K (ga K "Row") "settle") (by simp [tabs])
  have F : FnP K "settle" "Row.settle" s_sl (ma K (ga K "Row") "settle") (fd 46) := D 46 _ rfl
  obtain ⟨oc, od, dV, kV, doc, pm, an, cdv, ct, osl, e0, lk, hcd, _, _⟩ := F.ex
  rw [e0] at lk ⊢
  obtain ⟨cc, rfl⟩ := codeIn_ref hcd
  have ec : Tw.codeAt K (ma K (ga K "Row") "settle") = cc := by
    unfold Tw.codeAt
    rw [lk]
  rw [ec] at TB
  refine fn_of lk hcd sc_sl (fun vs H Q E h => ?_) (fun A outer s H vs Q E hr h => ?_)
  · obtain ⟨a, f, dx, t, ys, ps, sl, o, rfl, _⟩ := h
    rfl
  · obtain ⟨a, f, dx, t, ys, ps, sl, o, rfl, ha, ht, his, few, hf, FL, hT, hans, hend⟩ := h
    refine ⟨_, (pss_cons (ps_set (i := 2) sc_sl.nd rfl (Or.inr rfl) (pe_fld (pv 0) rfl))
    (pss_cons (ps_set (i := 3) sc_sl.nd rfl (Or.inr rfl) (pe_lcX (own := [("item", 5)]) (g := gName 5) (E := E) (W := fun cls d _ H => E cls d H) rfl rfl (takes_of rfl rfl rfl rfl) (fun _ _ _ _ h => h) (by rfl) sc_sl.nd (pi_tup (pv 2)) (blkOk_by (own := [("item", 5)]) (N := N_sl) (sc := defScope s_sl) (by decide +kernel)) (fun _ _ _ _ _ => (pg_name (i := 5) sc_sl.nd rfl (Or.inl rfl)))
      (fun _ _ _ _ _ xe hp => pe_callF (E := E) (i := 1) rfl (by first | exact .inl rfl | exact .inr (.inl rfl) | exact .inr (.inr rfl)) hf FL (hr.mono (by decide)) hp (pa_cons (pv 5) pa_nil))))
    (pss_cons (ps_set (i := 4) sc_sl.nd rfl (Or.inl rfl) (pe_sortedL (host := host) (x := "k") (cs := ["items", "answers"]) (caps := [2, 3]) (pre := fun _ => True) (L := Tb K)
        (by exact ⟨made_def TB rfl (show (tabAt K (ma K (ga K "Row") "settle"), nm "Row.settle") ∈ Tb K from by simp [Tb]), bmIn TB, cellsOut_def (fun _ => rfl), lamQ_by (sc := defScope s_sl) (by decide +kernel), (caps_by (N := N_sl) (by decide +kernel)), rfl, by decide +kernel, rfl, (fun us _ _ _ _ _ _ hu => match us, hu with | [_], _ => rfl), fun _ => rfl,
          (fun base A outer s1 H1 E f c' => pu_fld (fld := "rank") (pu_ixT (K := K) (pu_var (x := "items") (i := 1) rfl (.inr (.inr rfl))) (pu_var (x := "k") (i := 0) rfl (.inl rfl)) (fun _ _ => rfl)) rfl T.cls (T.na (by decide +kernel))),
          (fun base A outer s1 H1 E f c' => pu_ixL (K := K) (pu_var (x := "answers") (i := 2) rfl (.inr (.inr rfl))) (pu_var (x := "k") (i := 0) rfl (.inl rfl)) (fun _ _ => rfl))⟩) (hr.mono (by decide)) (by rfl) zs (pa_cons (pe_callTy (cr_listRng (by rfl)) (by rfl) zlist (by decide +kernel) (pa_cons (pe_callTy cr_range1 (by rfl) zr (by decide +kernel) (pa_cons (pe_callB call_len (by rfl) zlen (by decide +kernel) (pa_cons (pv 2) pa_nil)) pa_nil)) pa_nil)) pa_nil) (by decide +kernel)))
    (pss_one (ps_fld (pv 0) (pe_callTy call_tuple_of (by rfl) ztup (by decide +kernel) (pa_cons (pe_lc (own := [("k", 6)]) (g := gName 6) (by rfl) sc_sl.nd (pi_list (pv 4)) (blkOk_by (own := [("k", 6)]) (N := N_sl) (sc := defScope s_sl) (by decide +kernel)) (fun _ _ _ _ _ => (pg_name (i := 6) sc_sl.nd rfl (Or.inl rfl))) (fun _ _ _ _ _ => pts_nil) (fun _ _ _ _ _ => pe_ix (ixt K) (pv 2) (pv 6) (fun _ _ => rfl))) pa_nil)) rfl))))), ?_⟩
    have ln := its_len his
    refine ⟨_, rfl, a, _, dx, _, _, rfl, ha, T.clsR, T.naR, rfl, ?_⟩
    refine ⟨_, rfl, t, rfl, ⟨ys, SqT.of ht⟩, fun Dl hD => ?_⟩
    dsimp only [gName]
    refine lc_tup (K := K) (a := t) (xs := ys) (g := gName 5) (tt := tYes) (te := fun σ H Q => σ[1]? = some (some (V.ref f)) ∧ tCons (tVar 5) tNil σ H fun vs H1 => sl vs H1 Q E) (vs := [5]) (σ := [some (.ref a), some (.ref f), some (.ref t), none, none, none, none]) (fun i H' => Same H H' ∧ ∃ zs, H' Dl = some (.lst zs) ∧ Paired (fun y z => o y = some z) (ys.take i) zs) ⟨same_new hD, [], upd_same, .nil⟩ (fun _ _ _ q => SqT.of (q.1 _ _ ht)) ?_ ?_
    · rintro i y H' hy ⟨sD, zs, gD, hz⟩
      have hl := Paired.length hz
      refine ⟨rfl, rfl, _, rfl, hans y (List.mem_of_getElem? hy) H' _ sD fun v ev H2 s2 => ⟨zs, s2 _ _ gD, ?_, same_upd (sD.trans s2) hD, zs ++ [v], upd_same, ?_⟩⟩
      · rw [← hl, sizeLine_eq]
        have := List.length_take_le' i ys
        omega
      · rw [List.take_add_one, hy]
        show Paired _ (ys.take i ++ [y]) (zs ++ [v])
        exact paired_ap (F := fun y z => o y = some z) (.cons ev .nil) hz
    · rintro H1 ⟨sD, zs, gD, hz⟩
      rw [List.take_length] at hz
      rcases hend with ⟨y, hy, ho⟩ | ⟨wy, hw, k⟩
      · obtain ⟨i, hi, rfl⟩ := List.getElem_of_mem hy
        have e1 : ys[i]? = some ys[i] := List.getElem?_eq_getElem hi
        obtain ⟨b, _, h⟩ := paired_get hz e1
        rw [ho] at h
        cases h
      · have lz : zs = ps.map fun p => ansV wy p.2 := by
          refine List.ext_getElem? fun i => ?_
          by_cases hi : i < ys.length
          · have e1 : ys[i]? = some ys[i] := List.getElem?_eq_getElem hi
            have e3 : ps[i]? = some (ps[i]'(by omega)) := List.getElem?_eq_getElem (by omega)
            obtain ⟨b, e2, h⟩ := paired_get hz e1
            rw [hw i _ _ e1 e3] at h
            rw [e2, List.getElem?_map, e3, ← h]
            rfl
          · have := Paired.length hz
            rw [List.getElem?_eq_none (by omega), List.getElem?_eq_none (by rw [List.length_map]; omega)]
        clear hz
        subst lz
        have l4 : ys.length ≤ sizeLine := by rw [sizeLine_eq]; omega
        refine ⟨_, rfl, .ref t, ys.length, rfl, .inr ⟨ys, SqT.of (sD _ _ ht), rfl⟩, ys.length, rfl, fun pr fpr => ⟨pr, ys.length, rfl, upd_same, by omega, fun l fl => ?_⟩⟩
        have sl : Same H (upd (upd H1 pr (.rng 0 (ys.length : Int))) l (.lst (upToV ys.length))) := (sD.trans (same_new fpr)).trans (same_new fl)
        have gD2 : (upd (upd H1 pr (.rng 0 (ys.length : Int))) l (.lst (upToV ys.length))) Dl = some (.lst (ps.map fun p => ansV wy p.2)) := ((same_new fpr).trans (same_new fl)) _ _ gD
        have gl : (upd (upd H1 pr (.rng 0 (ys.length : Int))) l (.lst (upToV ys.length))) l = some (.lst (upToV ys.length)) := upd_same
        refine ⟨l, upToV ys.length, ps.map fun p => (p.1, dA wy p.2), rfl, hT.ext sl, trivial, fun z hz => ?_, fun z hz z' hz' => ?_, fun H2 e2 T2 => ?_⟩
        · obtain ⟨p, _, rfl⟩ := List.mem_map.mp hz
          exact ⟨_, dA_scal wy p.2⟩
        · obtain ⟨p, _, rfl⟩ := List.mem_map.mp hz
          obtain ⟨p', _, rfl⟩ := List.mem_map.mp hz'
          exact dA_alike wy _ _
        generalize upd (upd H1 pr (.rng 0 (ys.length : Int))) l (.lst (upToV ys.length)) = G at sl gD2 gl e2
        have ext : ∀ b u, H b = some u → (∀ xs, u ≠ .tbl xs) → H2 b = some u := fun b u h n => e2 _ _ (sl _ _ h) n
        have ht2 := ext _ _ ht fun _ z => nomatch z
        have gl2 := e2 _ _ gl fun _ z => nomatch z
        have gD3 := e2 _ _ gD2 fun _ z => nomatch z
        refine ⟨SqL.of gl2, paired_ix (by rw [upTo_len, List.length_map, ln]) fun i y k hy hk => ?_, fun q fq => ?_⟩
        · have hi : i < ys.length := by
            have := (List.getElem?_eq_some_iff.mp hy).1
            rw [upTo_len] at this
            exact this
          rw [upTo_get hi] at hy
          cases hy
          have e3 : ps[i]? = some (ps[i]'(by omega)) := List.getElem?_eq_getElem (by omega)
          rw [List.getElem?_map, e3] at hk
          cases hk
          obtain ⟨b, eb, Ib⟩ := its_at his e3
          obtain ⟨db, hb⟩ := Ib
          have hb2 := ext _ _ hb fun _ z => nomatch z
          refine ⟨⟨_, rfl, _, rfl, t, ys, i, _, rfl, rfl, SqT.of ht2, eb, b, db, _, _, rfl, hb2, rfl, (fun _ z => nomatch z), rfl⟩, ⟨_, rfl, _, rfl, Dl, _, i, _, rfl, rfl, SqL.of gD3, ?_, dA_scal wy _⟩⟩
          rw [List.getElem?_map, e3]
          rfl
        · rw [sortT_order ln]
          have s3 := same_new (o := .lst ((sortT wy ys ps).map (·.1))) fq
          have gq : (upd H2 q (.lst ((sortT wy ys ps).map (·.1)))) q = some (.lst ((sortT wy ys ps).map (·.1))) := upd_same
          generalize upd H2 q (.lst ((sortT wy ys ps).map (·.1))) = H3 at s3 gq
          have ext3 : ∀ b u, H b = some u → (∀ xs, u ≠ .tbl xs) → H3 b = some u := fun b u h n => s3 _ _ (ext b u h n)
          have T3 := T2.ext s3
          have nS : (sortT wy ys ps).length ≤ 400 := by
            unfold sortT trip
            rw [List.length_mergeSort, List.length_zip, List.length_zip, upTo_len]
            omega
          refine ⟨_, rfl, q, rfl, ⟨_, SqL.of gq⟩, fun D2 fD2 => ?_⟩
          refine lc_list (K := K) (a := q) (xs := (sortT wy ys ps).map (·.1)) (g := gName 6) (tt := tYes) (te := tOp (rIxT K) (tVar 2) (tVar 6)) (vs := [6]) (σ := [some (.ref a), some (.ref f), some (.ref t), some (.ref Dl), some (.ref q), none, none])
            (fun i H' => Same H3 H' ∧ H' D2 = some (.lst (((sortT wy ys ps).map (·.2.1)).take i))) ⟨same_new fD2, upd_same⟩ (fun _ _ _ z => SqL.of (z.1 _ _ gq)) ?_ ?_
          · rintro i y H' hy ⟨s4, g4⟩
            rw [List.getElem?_map] at hy
            cases hx : (sortT wy ys ps)[i]? with
            | none =>
              rw [hx] at hy
              cases hy
            | some x =>
              rw [hx] at hy
              cases hy
              obtain ⟨j, ej, ey, _⟩ := trip_mem (sortT_mem (List.mem_of_getElem? hx))
              refine ⟨rfl, _, rfl, _, rfl, t, ys, (j : Int), x.2.1, rfl, ej, SqT.of (s4 _ _ (ext3 _ _ ht fun _ z => nomatch z)), atI_nat ey, _, g4, ?_, same_upd s4 fD2, ?_⟩
              · have := List.length_take_le' i ((sortT wy ys ps).map (·.2.1))
                rw [List.length_map] at this
                rw [sizeLine_eq]
                omega
              · rw [upd_same, List.take_add_one, List.getElem?_map, hx]
                rfl
          · rintro H4 ⟨s4, g4⟩
            rw [List.take_of_length_le (by rw [List.length_map, List.length_map]; exact Nat.le_refl _)] at g4
            refine ⟨D2, _, rfl, .inl ⟨SqL.of g4, fun l2 f2 => ?_⟩⟩
            have s5 := same_new (o := .tup ((sortT wy ys ps).map (·.2.1))) f2
            have g5 : (upd H4 l2 (.tup ((sortT wy ys ps).map (·.2.1)))) l2 = some (.tup ((sortT wy ys ps).map (·.2.1))) := upd_same
            generalize upd H4 l2 (.tup ((sortT wy ys ps).map (·.2.1))) = H5 at s5 g5
            have ext5 : ∀ b u, H b = some u → (∀ xs, u ≠ .tbl xs) → H5 b = some u := fun b u h n => s5 _ _ (s4 _ _ (ext3 b u h n))
            have ha5 := ext5 _ _ ha fun _ z => nomatch z
            have na : l2 ≠ a := fun z => by
              rw [z, ha5] at g5
              cases g5
            have nI : ∀ b C dy fs, H b = some (.ins C dy fs) → C ≠ ga K "Row" → b ≠ a := fun b C dy fs h n z => by
              rw [z, ha] at h
              cases h
              exact n rfl
            refine ⟨_, rfl, a, _, dx, _, rfl, ha5, T.clsR, T.naR, (by show 1 < 1000; decide), ?_⟩
            refine k _ l2 ((sortT wy ys ps).map (·.2.1)) (fun b u h n1 n2 => ?_) (tbn_but ((Tbn.ext T3 s4).ext s5) But.upd ⟨_, _, _, ha5⟩) upd_same ?_ ?_
            · rw [upd_ne n1]
              exact ext5 b u h n2
            · rw [upd_ne na]
              exact g5
            · rw [← sortT_pairs ln]
              refine paired_maps fun x hx => ?_
              obtain ⟨j, _, ey, ep⟩ := trip_mem (sortT_mem hx)
              obtain ⟨b, eb, db, hb⟩ := its_at his ep
              rw [ey] at eb
              refine ⟨b, Option.some.inj eb, db, ?_⟩
              rw [upd_ne (fun z => ?_)]
              · exact ext5 _ _ hb fun _ z => nomatch z
              · rw [z, ha] at hb
                have := Option.some.inj hb
                simp at this
end
end K10
namespace K10
open PySem PySem.Spec PyProof.Rows L2 He Tw
/-! ### deeds, and what becomes of pairs by them -/
theorem asc_ext : ∀ {ns ms : List Int}, ns.Pairwise (· < ·) → ms.Pairwise (· < ·) → (∀ k, k ∈ ns ↔ k ∈ ms) → ns = ms
  | [], [], _, _, _ => rfl
  | [], m :: ms, _, _, h => absurd ((h m).mpr List.mem_cons_self) (by simp)
  | n :: ns, [], _, _, h => absurd ((h n).mp List.mem_cons_self) (by simp)
  | n :: ns, m :: ms, hn, hm, h => by
    obtain ⟨n1, n2⟩ := List.pairwise_cons.mp hn
    obtain ⟨m1, m2⟩ := List.pairwise_cons.mp hm
    have e : n = m := by
      rcases List.mem_cons.mp ((h n).mp List.mem_cons_self) with e | e
      · exact e
      · rcases List.mem_cons.mp ((h m).mpr List.mem_cons_self) with e' | e'
        · exact e'.symm
        · have := m1 n e
          have := n1 m e'
          omega
    subst e
    congr 1
    refine asc_ext n2 m2 fun k => ⟨fun hk => ?_, fun hk => ?_⟩
    · rcases List.mem_cons.mp ((h k).mp (List.mem_cons_of_mem _ hk)) with e | e
      · have := n1 k hk
        omega
      · exact e
    · rcases List.mem_cons.mp ((h k).mpr (List.mem_cons_of_mem _ hk)) with e | e
      · have := m1 k hk
        omega
      · exact e
theorem asc_sort (w : Nat) (ps : List (Int × Str)) : Asc (ps.mergeSort (leP w)) := (List.pairwise_mergeSort (leP_trans w) (leP_total w) ps).imp fun {a b} h => by
  unfold leP at h
  simp only [Bool.or_eq_true, Bool.and_eq_true, decide_eq_true_eq] at h
  rcases h with h | ⟨h, _⟩ <;> omega

inductive Deed where
  | put (i : Nat) (q : Int × Str)
  | settle
  | op (s : Str) (qs : List (Int × Str))
/-- what is heard of a deed: none when it is done -/
abbrev Wd := Option (Str × Int)
inductive Stp (ps : List (Int × Str)) : Deed → List (Int × Str) → Wd → Prop where
  | far {i : Nat} {q : Int × Str} (h : ps.length ≤ i) : Stp ps (.put i q) ps (some ("place", (i : Int)))
  | put {i : Nat} {q : Int × Str} (h : i < ps.length) (u : Up (ps.set i q) (ps.set i q).length) : Stp ps (.put i q) (ps.set i q) none
  | bad {i : Nat} {q : Int × Str} {k : Nat} (h : i < ps.length) (f : FallK (ps.set i q) k) : Stp ps (.put i q) ps (some ("order", 1 + (k : Int)))
  | settle : Stp ps .settle (ps.mergeSort (leP 0)) none
  | op {s : Str} {qs : List (Int × Str)} {ns : List Int} (u : Up qs qs.length) (r : Rks ps qs ns) : Stp ps (.op s qs) (takenL s ps qs ns) none
  | opBad {s : Str} {qs : List (Int × Str)} {k : Nat} (f : FallK qs k) : Stp ps (.op s qs) ps (some ("order", 1 + (k : Int)))
theorem FallK.not {ps : List (Int × Str)} {k : Nat} (f : FallK ps k) (u : Up ps ps.length) : False := by
  obtain ⟨a, b, h1, h2, h3, _⟩ := f
  have := u k a b (List.getElem?_eq_some_iff.mp h1).1 h1 h2
  omega
theorem FallK.uniq {ps : List (Int × Str)} {k j : Nat} (f : FallK ps k) (g : FallK ps j) : k = j := by
  obtain ⟨a, b, h1, h2, h3, h4⟩ := f
  obtain ⟨c, d, g1, g2, g3, g4⟩ := g
  rcases Nat.lt_trichotomy k j with z | z | z
  · have := g4 k a b z h1 h2
    omega
  · exact z
  · have := h4 j c d z g1 g2
    omega
theorem Rks.uniq {ps qs : List (Int × Str)} {ns ms : List Int} (R : Rks ps qs ns) (S : Rks ps qs ms) : ns = ms := asc_ext R.asc S.asc fun k => (R.mem k).trans (S.mem k).symm
theorem Stp.uniq {ps us vs : List (Int × Str)} {d : Deed} {v w : Wd} (h : Stp ps d us v) (g : Stp ps d vs w) : us = vs ∧ v = w := by
  cases h with
  | far h =>
    cases g with
    | far => exact ⟨rfl, rfl⟩
    | put g => omega
    | bad g => omega
  | put h u =>
    cases g with
    | far g => omega
    | put => exact ⟨rfl, rfl⟩
    | bad _ f => exact (f.not u).elim
  | bad h f =>
    cases g with
    | far g => omega
    | put _ u => exact (f.not u).elim
    | bad _ g => rw [f.uniq g]; exact ⟨rfl, rfl⟩
  | settle => cases g; exact ⟨rfl, rfl⟩
  | op u r =>
    cases g with
    | op _ r' => rw [r.uniq r']; exact ⟨rfl, rfl⟩
    | opBad f => exact (f.not u).elim
  | opBad f =>
    cases g with
    | op u _ => exact (f.not u).elim
    | opBad g => rw [f.uniq g]; exact ⟨rfl, rfl⟩
/-- a deed as the law draws it -/
def DeedOk : Deed → Prop
  | .put _ q => Gs q
  | .settle => True
  | .op s qs => s ∈ signs ∧ (∀ q ∈ qs, Gd q) ∧ (Up qs qs.length → ∀ q ∈ qs, Gs q) ∧ qs.length ≤ 29
/-- pairs of a row -/
structure Rw (n : Nat) (ps : List (Int × Str)) : Prop where
  asc : Asc ps
  gs : ∀ q ∈ ps, Gs q
  few : ps.length ≤ n
theorem Stp.rw {n : Nat} {ps us : List (Int × Str)} {d : Deed} {w : Wd} (h : Stp ps d us w) (R : Rw n ps) (ok : DeedOk d) : Rw (n + 29) us := by
  have R' : Rw (n + 29) ps := ⟨R.asc, R.gs, Nat.le_trans R.few (Nat.le_add_right _ _)⟩
  cases h with
  | far h => exact R'
  | @put i q h u =>
    refine ⟨up_asc u (Nat.le_succ _), fun x hx => ?_, by rw [List.length_set]; exact R'.few⟩
    rcases List.mem_or_eq_of_mem_set hx with z | z
    · exact R.gs x z
    · rw [z]
      exact ok
  | bad h f => exact R'
  | settle => exact ⟨asc_sort 0 ps, fun x hx => R.gs x ((List.mergeSort_perm _ _).mem_iff.mp hx), by rw [(List.mergeSort_perm _ _).length_eq]; exact R'.few⟩
  | op u r =>
    obtain ⟨_, _, g, l⟩ := ok
    refine ⟨takenL_asc r.asc, fun x hx => ?_, Nat.le_trans (takenL_len r) (Nat.add_le_add R.few l)⟩
    rcases takenL_mem hx with z | z
    · exact R.gs x z
    · exact g u x z
  | opBad f => exact R'
/-- deeds one after another; only the last one may be refused -/
inductive Runs (ps : List (Int × Str)) : List Deed → List (Int × Str) → Wd → Prop where
  | nil : Runs ps [] ps none
  | snoc {ds : List Deed} {d : Deed} {us vs : List (Int × Str)} {w : Wd} (h : Runs ps ds us none) (s : Stp us d vs w) : Runs ps (ds ++ [d]) vs w
theorem Runs.uniq {ps us : List (Int × Str)} {ds : List Deed} {v : Wd} (h : Runs ps ds us v) : ∀ {vs : List (Int × Str)} {w : Wd}, Runs ps ds vs w → us = vs ∧ v = w := by
  induction h with
  | nil =>
    intro vs w g
    generalize e : ([] : List Deed) = l at g
    cases g with
    | nil => exact ⟨rfl, rfl⟩
    | snoc => exact absurd e (by simp)
  | @snoc ds d us1 vs1 w1 h s ih =>
    intro vs w g
    generalize e : ds ++ [d] = l at g
    cases g with
    | nil => exact absurd e (by simp)
    | snoc h' s' =>
      obtain ⟨e1, e2⟩ := List.append_inj' e rfl
      subst e1
      cases e2
      obtain ⟨e3, _⟩ := ih h'
      subst e3
      exact s.uniq s'
theorem Runs.at {ps us : List (Int × Str)} {ds : List Deed} {w : Wd} (h : Runs ps ds us w) : ∀ {i : Nat} {d : Deed}, ds[i]? = some d → ∃ vs xs v, Runs ps (ds.take i) vs none ∧ Stp vs d xs v ∧ (i + 1 < ds.length → v = none) ∧ (i + 1 = ds.length → xs = us ∧ v = w) := by
  induction h with
  | nil =>
    intro i d hi
    cases hi
  | @snoc ds d us1 vs1 w1 h s ih =>
    intro i e hi
    have hl : i < (ds ++ [d]).length := (List.getElem?_eq_some_iff.mp hi).1
    rw [List.length_append, List.length_singleton] at hl
    by_cases z : i < ds.length
    · rw [List.getElem?_append_left z] at hi
      obtain ⟨vs, xs, v, r, st, n1, n2⟩ := ih hi
      refine ⟨vs, xs, v, ?_, st, fun _ => ?_, fun q => ?_⟩
      · rw [List.take_append_of_le_length (Nat.le_of_lt z)]
        exact r
      · by_cases y : i + 1 < ds.length
        · exact n1 y
        · exact (n2 (by omega)).2
      · rw [List.length_append, List.length_singleton] at q
        omega
    · have e1 : i = ds.length := by omega
      subst e1
      rw [List.getElem?_append_right (Nat.le_refl _), Nat.sub_self] at hi
      cases hi
      refine ⟨us1, vs1, w1, ?_, s, fun q => ?_, fun _ => ⟨rfl, rfl⟩⟩
      · rw [List.take_append_of_le_length (Nat.le_refl _), List.take_length]
        exact h
      · rw [List.length_append, List.length_singleton] at q
        omega
theorem Runs.rw {n : Nat} {ps us : List (Int × Str)} {ds : List Deed} {w : Wd} (h : Runs ps ds us w) (R : Rw n ps) : (∀ d ∈ ds, DeedOk d) → Rw (n + 29 * ds.length) us := by
  induction h with
  | nil => exact fun _ => R
  | @snoc ds d us1 vs1 w1 h s ih =>
    intro ok
    have z := s.rw (ih fun x hx => ok x (List.mem_append_left _ hx)) (ok d (List.mem_append_right _ List.mem_cons_self))
    rw [List.length_append, List.length_singleton]
    exact ⟨z.asc, z.gs, Nat.le_trans z.few (by omega)⟩
end K10
namespace K10
open PySem PySem.Spec PyProof.Rows L2 He Tw
/-- a deed at dd, its lists N -/
def DeedAt (N : Addr → Prop) (H : Hp) (dd : Addr) : Deed → Prop
  | .put i q => ∃ t, H dd = some (.tup [.str "put", .int (i : Nat), .ref t]) ∧ H t = some (.tup [.int q.1, .str q.2])
  | .settle => ∃ e, H dd = some (.tup [.str "settle", .ref e])
  | .op s qs => ∃ f ts, H dd = some (.tup [.str s, .ref f]) ∧ N f ∧ H f = some (.lst ts) ∧ Prs H ts qs
theorem DeedAt.keep {N N' : Addr → Prop} {H H' : Hp} {dd : Addr} (k : ∀ b xs, H b = some (.tup xs) → H' b = some (.tup xs)) (n : ∀ b xs, N b → H b = some (.lst xs) → N' b ∧ H' b = some (.lst xs)) : ∀ {d : Deed}, DeedAt N H dd d → DeedAt N' H' dd d
  | .put _ _, ⟨t, h1, h2⟩ => ⟨t, k _ _ h1, k _ _ h2⟩
  | .settle, ⟨e, h1⟩ => ⟨e, k _ _ h1⟩
  | .op _ _, ⟨f, ts, h1, h2, h3, h4⟩ => ⟨f, ts, k _ _ h1, (n _ _ h2 h3).1, (n _ _ h2 h3).2, h4.keep k⟩
theorem DeedAt.same {N : Addr → Prop} {H H' : Hp} {dd : Addr} {d : Deed} (h : DeedAt N H dd d) (e : Same H H') : DeedAt N H' dd d := h.keep (fun b xs z => e _ _ z) fun b xs n z => ⟨n, e _ _ z⟩
theorem DeedAt.mono {N N' : Addr → Prop} {H : Hp} {dd : Addr} {d : Deed} (h : DeedAt N H dd d) (e : ∀ b xs, N b → H b = some (.lst xs) → N' b) : DeedAt N' H dd d := h.keep (fun _ _ z => z) fun b xs n z => ⟨e b xs n z, z⟩
/-- what is due to be heard, at u -/
def WdAt (H : Hp) (u : Addr) : Wd → Prop
  | none => H u = some (.lst [.non])
  | some (t, n) => H u = some (.tup [.str t, .int n])
theorem WdAt.same {H H' : Hp} {u : Addr} (e : Same H H') : ∀ {w : Wd}, WdAt H u w → WdAt H' u w
  | none, h => e _ _ h
  | some (_, _), h => e _ _ h
def spStep : Sp := fun vs H Q _ => ∃ (N : Addr → Prop) (g dd : Addr) (ts : List V) (ps : List (Int × Str)) (d : Deed), vs = [.ref g, .ref dd] ∧ H g = some (.lst ts) ∧ Prs H ts ps ∧ Rw 171 ps ∧ DeedOk d ∧ DeedAt N H dd d ∧
  ∀ (us : List (Int × Str)) (wd : Wd), Stp ps d us wd → ∀ (t l u : Addr) (H' : Hp) (xs : List V), Same H H' → H' t = some (.tup [.ref l, .ref u]) → H' l = some (.lst xs) → Prs H' xs us → (H l = none ∨ l = g) → H u = none → WdAt H' u wd → Q (.ref t) H'
theorem set_cut {α : Type} {xs : List α} {i : Nat} {x : α} (h : i < xs.length) : xs.take i ++ [x] ++ xs.drop (i + 1) = xs.set i x := by
  rw [List.set_eq_take_append_cons_drop, if_pos h, List.append_assoc]
  rfl
abbrev s_step : Stmt := topS 40
abbrev N_step : List Str := ["_law_pairs_here", "_law_deed_here", "_law_later", "_law_found", "_law_pair", "_law_at"]
theorem sc_step : FnScope N_step ["_law_pairs_here", "_law_deed_here"] (defScope s_step) := ⟨rfl, rfl, rfl, by decide +kernel, rfl, by decide +kernel, by decide +kernel⟩
section
variable {P : Program} {w : World} {K : Fg} {mg : Str → Option Value} {base : Heap} {fd : Nat → FuncData}
theorem G_step (D : DefsK K fd) (T : Txt K mg) : FnOk P w K mg base CX0 3 (ga K "_law_step") (fd 32) ["_law_pairs_here", "_law_deed_here"] spStep := by
  have zlen : mg "len" = none := T.bl (by decide +kernel)
  have gF : mg "_law_fall" = some (.ref (ga K "_law_fall")) := T.fn (by decide +kernel)
  have GF : FnOk P w K mg base CX0 1 _ (fd 31) ["_law_pairs_here"] spFall := G_fall D T
  have FF : FnP K "_law_fall" "_law_fall" s_fall (ga K "_law_fall") (fd 31) := D 31 _ rfl
  have bF : Binds K (fd 31) ["_law_pairs_here"] [] := FF.bindsN fun _ _ _ _ _ _ us hl => match us, hl with | [_], _ => rfl
  have gB : mg "_law_bag" = some (.ref (ga K "_law_bag")) := T.fn (by decide +kernel)
  have GB : FnOk P w K mg base CX0 1 _ (fd 30) ["_law_word", "_law_ones", "_law_others"] spBag := ok_bag D T
  have FB : FnP K "_law_bag" "_law_bag" s_bag (ga K "_law_bag") (fd 30) := D 30 _ rfl
  have bB : Binds K (fd 30) ["_law_word", "_law_ones", "_law_others"] [] := FB.bindsN fun _ _ _ _ _ _ us hl => match us, hl with | [_, _, _], _ => rfl
  have F : FnP K "_law_step" "_law_step" s_step (ga K "_law_step") (fd 32) := D 32 _ rfl
  refine F.ok sc_step (fun vs H Q E h => ?_) (fun cdv A outer s H vs Q E hr h => ?_)
  · obtain ⟨N, g, dd, ts, ps, d, rfl, _⟩ := h
    rfl
  · obtain ⟨N, g, dd, ts, ps, d, rfl, hg, prs, rw0, ok, hd, k⟩ := h
    refine ⟨_, PSs.nox (pss_cons (ps_if (pt_cmpR op_eq (pe_ix (ixt K) (pv 1) pe_int (fun _ _ => rfl)) pe_str (nomark _)) (pss_cons (ps_if (pt_not (pt_chain op_le op_lt pe_int (pe_ix (ixt K) (pv 1) pe_int (fun _ _ => rfl)) (pe_callB call_len (by rfl) zlen (by decide +kernel) (pa_cons (pv 0) pa_nil)))) (pss_one (ps_ret (pe_tupN (pa_cons (pv 0) (pa_cons (pe_tupN (pa_cons pe_str (pa_cons (pe_ix (ixt K) (pv 1) pe_int (fun _ _ => rfl)) pa_nil))) pa_nil))))) pss_nil)
      (pss_cons (ps_set (i := 2) sc_step.nd rfl (Or.inl rfl) (pe_op op_catN (pe_op op_catN (pe_slice (slK K) (pv 0) po_none (po_some (pe_ix (ixt K) (pv 1) pe_int (fun _ _ => rfl)))) (pe_lstN (pa_cons (pe_ix (ixt K) (pv 1) pe_int (fun _ _ => rfl)) pa_nil))) (pe_slice (slK K) (pv 0) (po_some (pe_op op_add (pe_ix (ixt K) (pv 1) pe_int (fun _ _ => rfl)) pe_int)) po_none)))
      (pss_one (ps_ret (pe_ifExp (pt_cmpR op_isN (pe_call (E := E0) GF (hr.mono (by decide)) rfl gF FF.kp bF .nil pass0 (pa_cons (pv 2) pa_nil)) pe_non (nomark _)) (pe_tupN (pa_cons (pv 2) (pa_cons (pe_lstN (pa_cons pe_non pa_nil)) pa_nil))) (pe_tupN (pa_cons (pv 0) (pa_cons (pe_tupN (pa_cons pe_str (pa_cons (pe_call (E := E0) GF (hr.mono (by decide)) rfl gF FF.kp bF .nil pass0 (pa_cons (pv 2) pa_nil)) pa_nil))) pa_nil)))))))) pss_nil)
      (pss_cons (ps_if (pt_cmpR op_eq (pe_ix (ixt K) (pv 1) pe_int (fun _ _ => rfl)) pe_str (nomark _)) (pss_cons (ps_set (i := 3) sc_step.nd rfl (Or.inl rfl) (pe_lstN pa_nil))
      (pss_cons (ps_for PassesOwn.never rfl (pi_list (pv 0)) (pg_name (i := 4) sc_step.nd rfl (Or.inl rfl))
      (pss_cons (ps_set (i := 5) sc_step.nd rfl (Or.inl rfl) (pe_callB call_len (by rfl) zlen (by decide +kernel) (pa_cons (pv 3) pa_nil)))
      (pss_mid (ps_while PassesOwn.never (PW.pt (pw_and (pt_cmpR op_gt (pv 5) pe_int (nomark _)) (pw_and (pt_cmpR op_eq (pe_ix (ixt K) (pe_ix (ixl K) (pv 3) (pe_op op_sub (pv 5) pe_int) (fun _ _ => rfl)) pe_int (fun _ _ => rfl)) (pe_ix (ixt K) (pv 4) pe_int (fun _ _ => rfl)) (nomark _)) (pw_and1 (pt_cmpR op_ltA (pe_ix (ixt K) (pv 4) pe_int (fun _ _ => rfl)) (pe_ix (ixt K) (pe_ix (ixl K) (pv 3) (pe_op op_sub (pv 5) pe_int) (fun _ _ => rfl)) pe_int (fun _ _ => rfl)) (nomark _)))))) (pss_one (ps_set (i := 5) sc_step.nd rfl (Or.inl rfl) (pe_op op_sub (pv 5) pe_int))))
      (pss_one (ps_set (i := 3) sc_step.nd rfl (Or.inl rfl) (pe_op op_catN (pe_op op_catN (pe_slice (slK K) (pv 3) po_none (po_some (pv 5))) (pe_lstN (pa_cons (pv 4) pa_nil))) (pe_slice (slK K) (pv 3) (po_some (pv 5)) po_none)))))))
      (pss_one (ps_ret (pe_tupN (pa_cons (pv 3) (pa_cons (pe_lstN (pa_cons pe_non pa_nil)) pa_nil))))))) pss_nil)
      (pss_cons (ps_if (pt_cmpR op_notN (pe_call (E := E0) GF (hr.mono (by decide)) rfl gF FF.kp bF .nil pass0 (pa_cons (pe_ix (ixt K) (pv 1) pe_int (fun _ _ => rfl)) pa_nil)) pe_non (nomark _)) (pss_one (ps_ret (pe_tupN (pa_cons (pv 0) (pa_cons (pe_tupN (pa_cons pe_str (pa_cons (pe_call (E := E0) GF (hr.mono (by decide)) rfl gF FF.kp bF .nil pass0 (pa_cons (pe_ix (ixt K) (pv 1) pe_int (fun _ _ => rfl)) pa_nil)) pa_nil))) pa_nil))))) pss_nil)
      (pss_cons (ps_set (i := 2) sc_step.nd rfl (Or.inl rfl) (pe_call (E := E0) GB (hr.mono (by decide)) rfl gB FB.kp bB .nil pass0 (pa_cons (pe_ix (ixt K) (pv 1) pe_int (fun _ _ => rfl)) (pa_cons (pv 0) (pa_cons (pe_ix (ixt K) (pv 1) pe_int (fun _ _ => rfl)) pa_nil)))))
      (pss_one (ps_ret (pe_ifExp (pt_cmpR op_le (pe_callB call_len (by rfl) zlen (by decide +kernel) (pa_cons (pv 2) pa_nil)) pe_int (nomark _)) (pe_tupN (pa_cons (pv 2) (pa_cons (pe_lstN (pa_cons pe_non pa_nil)) pa_nil))) (pe_tupN (pa_cons (pv 0) (pa_cons (pe_tupN (pa_cons pe_str (pa_cons pe_int pa_nil))) pa_nil)))))))))), ?_⟩
    have ll : ts.length = ps.length := Paired.length prs
    have lm : ps.length ≤ 171 := rw0.few
    cases d with
    | put i q =>
      obtain ⟨t, hdd, ht⟩ := hd
      refine ⟨_, rfl, dd, _, 0, .str "put", rfl, rfl, SqT.of hdd, rfl, rfl, _, rfl, iteTe (decide_eq_true rfl) ?_⟩
      refine ⟨_, rfl, dd, _, 1, .int (i : Nat), rfl, rfl, SqT.of hdd, rfl, _, _, rfl, rfl, _, rfl, iteTe (decide_eq_true (by omega)) ?_⟩
      have lts : (LenV K (.ref g) H ts.length) := .inl ⟨ts, SqL.of hg, rfl⟩
      refine ⟨_, rfl, .ref g, ts.length, rfl, lts, _, _, rfl, rfl, _, rfl, ?_⟩
      by_cases hi : i < ps.length
      · refine iteFe (by rw [decide_eq_true (show ((i : Nat) : Int) < (ts.length : Int) by omega)]; rfl) ?_
        refine ⟨_, rfl, _, rfl, dd, _, 1, .int (i : Nat), rfl, rfl, SqT.of hdd, rfl, _, rfl, g, ts, rfl, SqL.of hg, fun p1 H1 f1 s1 g1 => ?_⟩
        rw [cutTake] at g1
        refine ⟨_, rfl, dd, _, 2, .ref t, rfl, rfl, SqT.of (s1 _ _ hdd), rfl, sz1000 (by show 1 ≤ 1000; decide), fun p2 H2 f2 m2 s2 g2 => ?_⟩
        refine ⟨p1, p2, _, _, rfl, rfl, s2 _ _ g1, g2, sz1000 (by rw [List.length_take]; show _ + 1 ≤ 1000; omega), fun p3 H3 f3 m3 s3 g3 => ?_⟩
        have s13 := s1.trans (s2.trans s3)
        refine ⟨_, rfl, _, rfl, dd, _, 1, .int (i : Nat), rfl, rfl, SqT.of (s13 _ _ hdd), rfl, _, _, rfl, rfl, _, rfl, g, ts, rfl, SqL.of (s13 _ _ hg), fun p4 H4 f4 s4 g4 => ?_⟩
        have ei : (((i : Nat) : Int) + 1) = ((i + 1 : Nat) : Int) := by omega
        rw [ei, cutDrop] at g4
        refine ⟨p3, p4, _, _, rfl, rfl, s4 _ _ g3, g4, sz1000 (by rw [List.length_append, List.length_take, List.length_drop]; show _ + 1 + _ ≤ 1000; omega), fun p5 H5 f5 m5 s5 g5 => ?_⟩
        have s15 := s13.trans (s4.trans s5)
        have e5 : ts.take i ++ [V.ref t] ++ ts.drop (i + 1) = ts.set i (.ref t) := set_cut (by omega)
        rw [e5] at g5
        have P5 : Prs H5 (ts.set i (.ref t)) (ps.set i q) := by
          rw [← set_cut (show i < ts.length by omega), ← set_cut hi]
          have h := prs_same s15 prs
          exact prs_app (prs_app (paired_tk i h) (.cons ⟨t, rfl, s15 _ _ ht⟩ .nil)) (paired_dp (i + 1) h)
        have fr5 : H p5 = none := (s13.trans s4).free f5
        refine ⟨_, rfl, p5, _, _, rfl, g5, P5, by rw [List.length_set]; omega, fun up H6 s6 => ?_, fun j fj H6 s6 => ?_⟩
        · refine ⟨rfl, _, rfl, iteTe (decide_eq_true rfl) ⟨_, rfl, sz1000 (by show 1 ≤ 1000; decide), fun u H7 f7 m7 s7 g7 => ⟨sz1000 (by show 2 ≤ 1000; decide), fun t2 H8 f8 s8 g8 => ?_⟩⟩⟩
          have s58 := s6.trans (s7.trans s8)
          exact k _ _ (.put hi up) t2 p5 u H8 _ (s15.trans s58) g8 (s58 _ _ g5) (prs_same s58 P5) (.inl fr5) ((s15.trans s6).free f7) (s8 _ _ g7)
        · refine ⟨rfl, _, rfl, iteFe (decide_eq_false fun z => nomatch z) ⟨_, rfl, _, rfl, p5, _, _, rfl, s6 _ _ g5, prs_same s6 P5, by rw [List.length_set]; omega, fun up => (fj.not up).elim, fun j2 fj2 H7 s7 => ?_⟩⟩
          refine ⟨sz1000 (by show 2 ≤ 1000; decide), fun u H8 f8 s8 g8 => ⟨sz1000 (by show 2 ≤ 1000; decide), fun t2 H9 f9 s9 g9 => ?_⟩⟩
          have s59 := s6.trans (s7.trans (s8.trans s9))
          exact k _ _ (.bad hi fj2) t2 g u H9 ts (s15.trans s59) g9 ((s15.trans s59) _ _ hg) (prs_same (s15.trans s59) prs) (.inr rfl) ((s15.trans (s6.trans s7)).free f8) (s9 _ _ g8)
      · refine iteTe (by rw [decide_eq_false (show ¬ ((i : Nat) : Int) < (ts.length : Int) by omega)]; rfl) ?_
        refine ⟨_, rfl, _, rfl, dd, _, 1, .int (i : Nat), rfl, rfl, SqT.of hdd, rfl, sz1000 (by show 2 ≤ 1000; decide), fun u H1 f1 s1 g1 => ?_⟩
        refine ⟨sz1000 (by show 2 ≤ 1000; decide), fun t2 H2 f2 s2 g2 => ?_⟩
        exact k _ _ (.far (by omega)) t2 g u H2 ts (s1.trans s2) g2 ((s1.trans s2) _ _ hg) (prs_same (s1.trans s2) prs) (.inr rfl) f1 (s2 _ _ g1)
    | settle =>
      obtain ⟨e, hdd⟩ := hd
      refine ⟨_, rfl, dd, _, 0, .str "settle", rfl, rfl, SqT.of hdd, rfl, rfl, _, rfl, iteFe (decide_eq_false fun z => absurd (V.str.inj z) (by decide)) ?_⟩
      refine ⟨_, rfl, dd, _, 0, .str "settle", rfl, rfl, SqT.of hdd, rfl, rfl, _, rfl, iteTe (decide_eq_true rfl) ?_⟩
      refine ⟨sz1000 (by show 0 ≤ 1000; decide), fun D H1 f1 m1 s1 g1 => ?_⟩
      dsimp only [gName]
      refine ⟨_, rfl, g, rfl, ⟨ts, s1.seq (SqL.of hg)⟩, for_list (K := K) (a := g) (xs := ts) (fun i σ H' => ∃ (v4 v5 : Option V) (l : Addr) (us : List V), σ = [some (.ref g), some (.ref dd), none, some (.ref l), v4, v5] ∧ Same H H' ∧ H l = none ∧ H' l = some (.lst us) ∧ Prs H' us (settledL 0 (ps.take i))) ⟨none, none, D, [], rfl, s1, f1, g1, .nil⟩ ?_ ?_ ?_⟩
      · rintro i σ H' _ ⟨_, _, _, _, _, s', _⟩
        exact s'.seq (SqL.of hg)
      · rintro i x σ H2 hx ⟨v4, v5, l, us, rfl, s2, fl, gl, pu⟩
        obtain ⟨t, q, rfl, eq, ht⟩ := prs_at prs hx
        have tp : ps.take (i + 1) = ps.take i ++ [q] := by rw [List.take_add_one, eq]; rfl
        refine ⟨_, rfl, .ref l, us.length, rfl, .inl ⟨us, SqL.of gl, rfl⟩, ?_⟩
        have lu : us.length = (settledL 0 (ps.take i)).length := Paired.length pu
        have l4 : us.length ≤ 400 := by
          rw [lu, settledL_length, List.length_take]
          omega
        refine ⟨fun σ' H' => ∃ n : Nat, n ≤ us.length ∧ σ' = [some (.ref g), some (.ref dd), none, some (.ref l), some (.ref t), some (.int (n : Nat))] ∧ Same H2 H' ∧ placeN 0 q (settledL 0 (ps.take i)) us.length = n, ?_, ?_⟩
        · refine ⟨fun m σ' H' => m ≤ us.length ∧ σ' = [some (.ref g), some (.ref dd), none, some (.ref l), some (.ref t), some (.int (m : Nat))] ∧ Same H2 H' ∧ placeN 0 q (settledL 0 (ps.take i)) us.length = placeN 0 q (settledL 0 (ps.take i)) m, ⟨us.length, Nat.le_refl _, rfl, Same.refl _, rfl⟩, ?_⟩
          rintro m σ' H3 ⟨hnl, rfl, s3, pl⟩
          have gl3 := s3 _ _ gl
          have ht3 := s3 _ _ (s2 _ _ ht)
          have pu3 : Prs H3 us (settledL 0 (ps.take i)) := pu.keep fun t xs z => s3 _ _ z
          refine ⟨_, rfl, _, _, rfl, rfl, _, rfl, ?_⟩
          match m, hnl, pl with
          | 0, hnl, pl => exact iteFe (by rfl) (iteF ⟨0, hnl, rfl, s3, pl⟩)
          | m + 1, hnl, pl =>
            refine iteTe (decide_eq_true (by omega)) ?_
            have hm : m < us.length := hnl
            obtain ⟨x, ex⟩ : ∃ x, (settledL 0 (ps.take i))[m]? = some x := ⟨_, List.getElem?_eq_getElem (by omega)⟩
            have eu : us[m]? = some us[m] := List.getElem?_eq_getElem hm
            obtain ⟨t', x', e1, e2, ht'⟩ := prs_at pu3 eu
            rw [ex] at e2
            cases e2
            rw [e1] at eu
            have hat : atI us (((m + 1 : Nat) : Int) - 1) = some (.ref t') := by
              rw [show (((m + 1 : Nat) : Int) - 1) = ((m : Nat) : Int) by omega]
              exact atI_nat eu
            have pst : placeN 0 q (settledL 0 (ps.take i)) (m + 1) = if stepB 0 q x then placeN 0 q (settledL 0 (ps.take i)) m else m + 1 := by
              rw [placeN, ex]
            refine ⟨_, rfl, _, rfl, _, _, rfl, rfl, l, us, _, .ref t', rfl, rfl, SqL.of gl3, hat, t', _, 0, .int x.1, rfl, rfl, SqT.of ht', rfl, _, rfl, t, _, 0, .int q.1, rfl, rfl, SqT.of ht3, rfl, rfl, _, rfl, ?_⟩
            by_cases hr : x.1 = q.1
            · refine iteTe (decide_eq_true (by rw [hr])) ?_
              refine ⟨_, rfl, t, _, 1, .str q.2, rfl, rfl, SqT.of ht3, rfl, _, rfl, _, rfl, _, _, rfl, rfl, l, us, _, .ref t', rfl, rfl, SqL.of gl3, hat, t', _, 1, .str x.2, rfl, rfl, SqT.of ht', rfl, .inr ⟨_, _, rfl, rfl⟩, _, rfl, ?_⟩
              by_cases hl : ltV (ansV 0 q.2) (ansV 0 x.2) = true
              · refine iteTe hl ?_
                refine ⟨fun σ' H' => m ≤ us.length ∧ σ' = [some (.ref g), some (.ref dd), none, some (.ref l), some (.ref t), some (.int (m : Nat))] ∧ Same H2 H' ∧ placeN 0 q (settledL 0 (ps.take i)) us.length = placeN 0 q (settledL 0 (ps.take i)) m, fun σ' H' z => ⟨m, Nat.lt_succ_self m, z⟩, ?_⟩
                refine ⟨_, rfl, _, _, rfl, rfl, by omega, ?_, s3, ?_⟩
                · have e1' : (((m + 1 : Nat) : Int) - 1) = ((m : Nat) : Int) := by omega
                  show [some (V.ref g), some (V.ref dd), none, some (.ref l), some (V.ref t), some (.int (((m + 1 : Nat) : Int) - 1))] = _
                  rw [e1']
                · rw [pl, pst, if_pos (by unfold stepB; rw [hl, decide_eq_true hr]; rfl)]
              · refine iteFe (Bool.eq_false_iff.mpr hl) ?_
                exact ⟨m + 1, hnl, rfl, s3, by rw [pl, pst, if_neg (by unfold stepB; intro z; exact hl (Bool.and_eq_true_iff.mp z).2)]⟩
            · refine iteFe (decide_eq_false fun z => hr (V.int.inj z)) ?_
              exact iteF ⟨m + 1, hnl, rfl, s3, by rw [pl, pst, if_neg (by unfold stepB; intro z; exact hr (of_decide_eq_true (Bool.and_eq_true_iff.mp z).1))]⟩
        · rintro σ3 H3 ⟨n, hnl, rfl, s3, pl⟩
          have gl3 := s3 _ _ gl
          have pu3 : Prs H3 us (settledL 0 (ps.take i)) := pu.keep fun t xs z => s3 _ _ z
          refine ⟨_, rfl, _, rfl, _, rfl, l, us, rfl, SqL.of gl3, fun p4 H4 f4 s4 g4 => ?_⟩
          rw [cutTake] at g4
          refine ⟨_, rfl, sz1000 (by show 1 ≤ 1000; decide), fun e6 H6 f6 m6 s6 g6 => ?_⟩
          refine ⟨p4, e6, _, _, rfl, rfl, s6 _ _ g4, g6, sz1000 (by rw [List.length_take]; show _ + 1 ≤ 1000; omega), fun p7 H7 f7 m7 s7 g7 => ?_⟩
          have S7 := s4.trans (s6.trans s7)
          refine ⟨_, rfl, _, rfl, _, rfl, l, us, rfl, SqL.of (S7 _ _ gl3), fun p8 H8 f8 s8 g8 => ?_⟩
          rw [cutDrop] at g8
          refine ⟨p7, p8, _, _, rfl, rfl, s8 _ _ g7, g8, sz1000 (by rw [List.length_append, List.length_take, List.length_drop]; show _ + 1 + _ ≤ 1000; omega), fun p9 H9 f9 m9 s9 g9 => ?_⟩
          have S8 := s2.trans (s3.trans (S7.trans s8))
          have S9 := S8.trans s9
          have K9 : Prs H9 us (settledL 0 (ps.take i)) := pu3.keep fun t xs z => s9 _ _ (s8 _ _ (S7 _ _ z))
          refine ⟨_, _, p9, _, rfl, S9, S8.free f9, g9, ?_⟩
          rw [tp, settledL_snoc]
          unfold putP
          rw [← lu, pl, List.append_assoc]
          exact paired_ap (.cons ⟨t, rfl, S9 _ _ ht⟩ (paired_dp n K9)) (paired_tk n K9)
      · rintro σ H2 ⟨v4, v5, l, us, rfl, s2, fl, gl, pu⟩
        rw [List.take_of_length_le (by omega), settledL_sort 0 rw0.asc] at pu
        refine ⟨_, rfl, sz1000 (by show 1 ≤ 1000; decide), fun u H7 f7 m7 s7 g7 => ⟨sz1000 (by show 2 ≤ 1000; decide), fun t2 H8 f8 s8 g8 => ?_⟩⟩
        have s28 := s7.trans s8
        exact k _ _ .settle t2 l u H8 _ (s2.trans s28) g8 (s28 _ _ gl) (prs_same s28 pu) (.inl fl) (s2.free f7) (s8 _ _ g7)
    | op s qs =>
      obtain ⟨f, us, hdd, nf, hf, pq⟩ := hd
      obtain ⟨hs, gd, gs, lq⟩ := ok
      have ns : s ≠ "put" ∧ s ≠ "settle" := by
        refine ⟨fun z => ?_, fun z => ?_⟩ <;> · rw [z] at hs; exact absurd hs (by decide)
      refine ⟨_, rfl, dd, _, 0, .str s, rfl, rfl, SqT.of hdd, rfl, rfl, _, rfl, iteFe (decide_eq_false fun z => ns.1 (V.str.inj z)) ?_⟩
      refine ⟨_, rfl, dd, _, 0, .str s, rfl, rfl, SqT.of hdd, rfl, rfl, _, rfl, iteFe (decide_eq_false fun z => ns.2 (V.str.inj z)) ?_⟩
      refine ⟨_, rfl, dd, _, 1, .ref f, rfl, rfl, SqT.of hdd, rfl, f, us, qs, rfl, hf, pq, by omega, fun up H1 s1 => ?_, fun j fj H1 s1 => ?_⟩
      · refine ⟨rfl, _, rfl, iteFe (by rfl) ?_⟩
        refine ⟨_, rfl, dd, _, 0, .str s, rfl, rfl, SqT.of (s1 _ _ hdd), rfl, _, rfl, _, rfl, dd, _, 1, .ref f, rfl, rfl, SqT.of (s1 _ _ hdd), rfl, ?_⟩
        refine ⟨s, g, f, ts, us, ps, qs, rfl, hs, s1 _ _ hg, prs_same s1 prs, by omega, s1 _ _ hf, prs_same s1 pq, by omega, fun l H2 zs ns s2 fl gl R pz => ?_⟩
        have lz : zs.length = (takenL s ps qs ns).length := Paired.length pz
        have l2 := takenL_len (sign := s) R
        refine ⟨_, rfl, .ref l, zs.length, rfl, .inl ⟨zs, SqL.of gl, rfl⟩, _, _, rfl, rfl, _, rfl, iteTe (decide_eq_true (by omega)) ?_⟩
        refine ⟨_, rfl, sz1000 (by show 1 ≤ 1000; decide), fun u H7 f7 m7 s7 g7 => ⟨sz1000 (by show 2 ≤ 1000; decide), fun t2 H8 f8 s8 g8 => ?_⟩⟩
        have s28 := s7.trans s8
        exact k _ _ (.op up R) t2 l u H8 _ ((s1.trans s2).trans s28) g8 (s28 _ _ gl) (prs_same s28 pz) (.inl (s1.free fl)) ((s1.trans s2).free f7) (s8 _ _ g7)
      · refine ⟨rfl, _, rfl, iteTe (by rfl) ?_⟩
        refine ⟨_, rfl, _, rfl, dd, _, 1, .ref f, rfl, rfl, SqT.of (s1 _ _ hdd), rfl, f, us, qs, rfl, s1 _ _ hf, prs_same s1 pq, by omega, fun up => (fj.not up).elim, fun j2 fj2 H2 s2 => ?_⟩
        refine ⟨sz1000 (by show 2 ≤ 1000; decide), fun u H8 f8 s8 g8 => ⟨sz1000 (by show 2 ≤ 1000; decide), fun t2 H9 f9 s9 g9 => ?_⟩⟩
        have s19 := s1.trans (s2.trans (s8.trans s9))
        exact k _ _ (.opBad fj2) t2 g u H9 ts s19 g9 (s19 _ _ hg) (prs_same s19 prs) (.inr rfl) ((s1.trans s2).free f8) (s9 _ _ g8)
end
end K10
namespace K10
open PySem PySem.Spec PyProof.Rows L2 He Tw
/-- what _law_heard tells of what a callable gives or raises -/
def TTh2 (K : Fg) : (XK → Hp → VK → Prop) → Hp → VK → Prop := fun tl H Q => ∀ (E' : XK) (Q' : VK), (∀ cls d H', Eh K Q cls d H' → E' cls d H') → (∀ v H1, (∀ (q : Addr) (H' : Hp), H1 q = none → Same H1 H' → H' q = some (.lst [v]) → Q (.ref q) H') → Q' v H1) → tl E' H Q'
def spHF (n : Nat) (P : Program) (w : World) (K : Fg) (mg : Str → Option Value) (base : Heap) : Sp := fun vs H Q _ => ∃ (f : Addr) (sl : Sp), vs = [.ref f] ∧ PySem.W.FnAt f base ∧ FnR P w K mg base (L2.CX P w) n f sl ∧ TTh2 K (fun E H Q => sl [] H Q E) H Q
theorem G_heard {P : Program} {w : World} {K : Fg} {mg : Str → Option Value} {base : Heap} {fh : Addr} {fd : FuncData} {n : Nat} (F : FnP K "_law_heard" "_law_heard" s_heard fh fd) (T : Txt K mg) : FnOk P w K mg base CX0 (n + 1) fh fd ["_law_ask"] (spHF n P w K mg base) := by
  have zisi : mg "isinstance" = none := T.bl (by decide +kernel)
  have gH : mg "HeadsError" = some (.ref (ga K "HeadsError")) := T.cl (by decide +kernel)
  have gI : mg "BadItem" = some (.ref (ga K "BadItem")) := T.cl (by decide +kernel)
  have gP : mg "BadPlace" = some (.ref (ga K "BadPlace")) := T.cl (by decide +kernel)
  have gD : mg "Disordered" = some (.ref (ga K "Disordered")) := T.cl (by decide +kernel)
  have gM : mg "TooMany" = some (.ref (ga K "TooMany")) := T.cl (by decide +kernel)
  refine F.ok sc_heard (fun vs H Q E h => by obtain ⟨f, sl, rfl, _⟩ := h; rfl) (fun cdv A outer s H vs Q E hr h => ?_)
  obtain ⟨f, sl, rfl, hf, FL, h⟩ := h
  have nd : N_heard.Nodup := sc_heard.nd
  refine ⟨_, PSs.nox (pss_cons (ps_set (i := 1) nd rfl (Or.inl rfl) pe_non)
    (pss_cons (ps_set (i := 2) nd rfl (Or.inl rfl) pe_non)
    (pss_cons (ps_tryL (i := 3) (n := "error") (c := .ref (ga K "HeadsError")) (tb := fun W D σ H => ∃ Ech : XK, (∀ cls d σ' H', Ech cls d H' → W cls d σ' H') ∧ σ[0]? = some (some (.ref f)) ∧ sl [] H (fun v H' => D.nx (σ.set 2 (some v)) H') Ech) rfl rfl rfl nd rfl rfl ⟨rfl, by decide, .inl gH⟩ LamX.takes0 (fun W pn xe tk _ => ?suite) (fun a oe cls d pn hz hf => pss_one (ps_set (i := 1) nd rfl (Or.inl rfl) (pv 3))))
    (pss_cons (ps_if (pt_val (pe_callB call_isA (by rfl) zisi (by decide +kernel) (pa_cons (pv 1) (pa_cons (pe_glob (v := .ref (ga K "BadItem")) rfl gI rfl) pa_nil)))) (pss_one (ps_ret (pe_tupN (pa_cons pe_str (pa_cons (pe_xfld (pv 1)) pa_nil))))) pss_nil)
    (pss_cons (ps_if (pt_val (pe_callB call_isA (by rfl) zisi (by decide +kernel) (pa_cons (pv 1) (pa_cons (pe_glob (v := .ref (ga K "BadPlace")) rfl gP rfl) pa_nil)))) (pss_one (ps_ret (pe_tupN (pa_cons pe_str (pa_cons (pe_xfld (pv 1)) pa_nil))))) pss_nil)
    (pss_cons (ps_if (pt_val (pe_callB call_isA (by rfl) zisi (by decide +kernel) (pa_cons (pv 1) (pa_cons (pe_glob (v := .ref (ga K "Disordered")) rfl gD rfl) pa_nil)))) (pss_one (ps_ret (pe_tupN (pa_cons pe_str (pa_cons (pe_xfld (pv 1)) pa_nil))))) pss_nil)
    (pss_cons (ps_if (pt_val (pe_callB call_isA (by rfl) zisi (by decide +kernel) (pa_cons (pv 1) (pa_cons (pe_glob (v := .ref (ga K "TooMany")) rfl gM rfl) pa_nil)))) (pss_one (ps_ret (pe_tupN (pa_cons pe_str (pa_cons (pe_xfld (pv 1)) pa_nil))))) pss_nil)
    (pss_one (ps_ret (pe_ifExp (pt_cmpR op_isN (pv 1) pe_non (nomark _)) (pe_lstN (pa_cons (pv 2) pa_nil)) (pe_tupN (pa_cons pe_str (pa_cons pe_int pa_nil))))))))))))), ?_⟩
  case suite =>
    refine ⟨fun pins s' σ H' D I h' => ?_⟩
    obtain ⟨Ech, hW, h1, h3⟩ := h'
    exact (pss_one (ps_set (i := 2) nd rfl (Or.inl rfl) (pe_callF0 (E := Ech) (i := 0) rfl (.inl rfl) hf FL hr (passes_call tk fun _ _ _ _ z => hW _ _ _ _ z)))).run pins s' σ H' D I ⟨h1, h3⟩
  · refine ⟨Eh K Q, ?_, rfl, h _ _ (fun _ _ _ z => z) fun v H1 hq => ?_⟩
    · rintro cls d σ' H' ⟨e, v, dd, he, rfl, rfl, hd, kq⟩ hl
      obtain ⟨w0, w1, w2, w3, rfl⟩ := four (show σ'.length = 4 from hl)
      refine ⟨ga K e.1, true, rfl, T.exm he, fun _ er her => ?_, fun z => nomatch z⟩
      have S1 := same_new (o := exT er (ga K e.1) (some dd)) her
      have hx : (upd H' er (exT er (ga K e.1) (some dd))) er = some (exT er (ga K e.1) (some dd)) := upd_same
      have hd2 := S1 _ _ hd
      have ty : TyA K (upd H' er (exT er (ga K e.1) (some dd))) (.ref er) (.ref (ga K e.1)) := .inr ⟨er, _, dd, _, rfl, rfl, .inr hx, .inr hd2, T.xc he, T.xo⟩
      have fin : ∀ (tp : Addr) (H3 : Hp), (upd H' er (exT er (ga K e.1) (some dd))) tp = none → Same (upd H' er (exT er (ga K e.1) (some dd))) H3 → H3 tp = some (.tup [.str (wordOf e.1), .int v]) → Q (.ref tp) H3 := fun tp H3 f3 s3 g3 => kq tp H3 (S1.free f3) (S1.trans s3) g3
      simp only [errs, List.mem_cons, List.not_mem_nil, or_false] at he
      have m0 : (("BadItem", 5, "part") : Str × Nat × Str) ∈ errs := by decide +kernel
      have m1 : (("BadPlace", 6, "at") : Str × Nat × Str) ∈ errs := by decide +kernel
      have m2 : (("Disordered", 7, "at") : Str × Nat × Str) ∈ errs := by decide +kernel
      have m3 : (("TooMany", 8, "most") : Str × Nat × Str) ∈ errs := by decide +kernel
      rcases he with rfl | rfl | rfl | rfl
      · refine ⟨_, rfl, _, rfl, .ref er, .ref (ga K "BadItem"), _, _, _, rfl, .own _, ty, T.kitT m0, _, rfl, ?_⟩
        exact iteT ⟨_, rfl, er, _, dd, _, _, rfl, .inr hx, T.xc m0, T.no m0, .inr hd2, rfl, sz1000 (by show 2 ≤ 1000; decide), fun tp H3 f3 s3 g3 => fin tp H3 f3 s3 g3⟩
      · refine ⟨_, rfl, _, rfl, .ref er, .ref (ga K "BadItem"), _, _, _, rfl, .own _, ty, T.kitF m1 m0 (by decide), _, rfl, ?_⟩
        refine iteF ⟨_, rfl, .ref er, .ref (ga K "BadPlace"), _, _, _, rfl, .own _, ty, T.kitT m1, _, rfl, ?_⟩
        exact iteT ⟨_, rfl, er, _, dd, _, _, rfl, .inr hx, T.xc m1, T.no m1, .inr hd2, rfl, sz1000 (by show 2 ≤ 1000; decide), fun tp H3 f3 s3 g3 => fin tp H3 f3 s3 g3⟩
      · refine ⟨_, rfl, _, rfl, .ref er, .ref (ga K "BadItem"), _, _, _, rfl, .own _, ty, T.kitF m2 m0 (by decide), _, rfl, ?_⟩
        refine iteF ⟨_, rfl, .ref er, .ref (ga K "BadPlace"), _, _, _, rfl, .own _, ty, T.kitF m2 m1 (by decide), _, rfl, ?_⟩
        refine iteF ⟨_, rfl, .ref er, .ref (ga K "Disordered"), _, _, _, rfl, .own _, ty, T.kitT m2, _, rfl, ?_⟩
        exact iteT ⟨_, rfl, er, _, dd, _, _, rfl, .inr hx, T.xc m2, T.no m2, .inr hd2, rfl, sz1000 (by show 2 ≤ 1000; decide), fun tp H3 f3 s3 g3 => fin tp H3 f3 s3 g3⟩
      · refine ⟨_, rfl, _, rfl, .ref er, .ref (ga K "BadItem"), _, _, _, rfl, .own _, ty, T.kitF m3 m0 (by decide), _, rfl, ?_⟩
        refine iteF ⟨_, rfl, .ref er, .ref (ga K "BadPlace"), _, _, _, rfl, .own _, ty, T.kitF m3 m1 (by decide), _, rfl, ?_⟩
        refine iteF ⟨_, rfl, .ref er, .ref (ga K "Disordered"), _, _, _, rfl, .own _, ty, T.kitF m3 m2 (by decide), _, rfl, ?_⟩
        refine iteF ⟨_, rfl, .ref er, .ref (ga K "TooMany"), _, _, _, rfl, .own _, ty, T.kitT m3, _, rfl, ?_⟩
        exact iteT ⟨_, rfl, er, _, dd, _, _, rfl, .inr hx, T.xc m3, T.no m3, .inr hd2, rfl, sz1000 (by show 2 ≤ 1000; decide), fun tp H3 f3 s3 g3 => fin tp H3 f3 s3 g3⟩
    · have kn := T.kind (t := "NoneType") (by decide)
      have k0 := kn.2 _ (show (("BadItem", 5, "part") : Str × Nat × Str) ∈ errs by decide +kernel)
      have k1 := kn.2 _ (show (("BadPlace", 6, "at") : Str × Nat × Str) ∈ errs by decide +kernel)
      have k2 := kn.2 _ (show (("Disordered", 7, "at") : Str × Nat × Str) ∈ errs by decide +kernel)
      have k3 := kn.2 _ (show (("TooMany", 8, "most") : Str × Nat × Str) ∈ errs by decide +kernel)
      refine ⟨_, rfl, .non, .ref (ga K "BadItem"), .type "NoneType", _, _, rfl, .own _, .inl (.base .non), k0, _, rfl, ?_⟩
      refine iteF ⟨_, rfl, .non, .ref (ga K "BadPlace"), .type "NoneType", _, _, rfl, .own _, .inl (.base .non), k1, _, rfl, ?_⟩
      refine iteF ⟨_, rfl, .non, .ref (ga K "Disordered"), .type "NoneType", _, _, rfl, .own _, .inl (.base .non), k2, _, rfl, ?_⟩
      refine iteF ⟨_, rfl, .non, .ref (ga K "TooMany"), .type "NoneType", _, _, rfl, .own _, .inl (.base .non), k3, _, rfl, ?_⟩
      refine iteF ⟨_, rfl, rfl, _, rfl, ?_⟩
      exact ⟨_, rfl, sz1000 (by show 1 ≤ 1000; decide), fun q H2 f2 m2 s2 g2 => hq q H2 f2 s2 g2⟩
end K10
namespace K10
open PySem PySem.Spec PyProof.Rows L2 He Tw
theorem lenK {X : Cx} (K : Fg) (h : X.K = K := by rfl) : CallR X (.builtin "len") (fun xs H Q => ∃ x n, xs = [x] ∧ LenV K x H n ∧ Q (.int n) H) := by
  subst h
  exact call_len
theorem noE {X : Cx} {P : Program} {w : World} : L2.Passes (L2.CX P w) X E0 := fun pins σ H s e s' I c => by
  obtain ⟨_, _, _, _, _, _, _, _, _, _, _, _, z⟩ := c
  exact z.elim
theorem tbn_lst {ho : Str → Option Str} {L : List (Addr × Str)} {p : Addr} {H H' : Hp} {xs : List V} (t : Tbn ho L H) (e : But p H H') (hp : H p = some (.lst xs)) : Tbn ho L H' := by
  obtain ⟨ν, h1, h2⟩ := t
  refine ⟨ν, h1, fun P q hq => ?_⟩
  obtain ⟨ps, a1, a2, a3⟩ := h2 P q hq
  refine ⟨ps, e _ _ a1 (fun z => ?_), a2, fun pos cv hc => ?_⟩
  · rw [z, hp] at a1
    cases a1
  · obtain ⟨c, P', y1, y2, y3⟩ := a3 pos cv hc
    refine ⟨c, P', y1, e _ _ y2 (fun z => ?_), y3⟩
    rw [z, hp] at y2
    unfold CodeN at y2
    cases y2
/-- what stands between the law's steps: the pen, the row, its pairs as a list, the tables -/
structure Sx (K : Fg) (H : Hp) (pn l : Addr) (c : Nat) (a g : Addr) (ps : List (Int × Str)) : Prop where
  P : PenL H pn l c
  row : ∃ ys, RowAt K H a ys ∧ Its K H ys ps
  lst : ∃ ts, H g = some (.lst ts) ∧ Prs H ts ps
  tk : Tk K H
  ne : g ≠ pn
section
variable {K : Fg} {H H' : Hp} {pn l a g : Addr} {c c' : Nat} {ps qs : List (Int × Str)}
theorem Sx.same (S : Sx K H pn l c a g ps) (e : Same H H') : Sx K H' pn l c a g ps := by
  obtain ⟨P, ⟨ys, r, i⟩, ⟨ts, h, p⟩, t, n⟩ := S
  exact ⟨P.same e, ⟨ys, r.same e, i.same e⟩, ⟨ts, e _ _ h, prs_same e p⟩, Tbn.ext t e, n⟩
theorem Sx.ext (S : Sx K H pn l c a g ps) (e : LamX.ExtN H H') (t' : Tk K H') : Sx K H' pn l c a g ps := by
  obtain ⟨P, ⟨ys, r, i⟩, ⟨ts, h, p⟩, t, n⟩ := S
  exact ⟨penN P e, ⟨ys, row_ext e r, its_ext e i⟩, ⟨ts, e _ _ h (fun _ z => nomatch z), p.keep fun b xs z => e _ _ z fun _ z => nomatch z⟩, t', n⟩
theorem pen_kind {H : Hp} {b : Addr} {o : HO} (P : PenL H pn l c) (e : H b = some o) (n : ∀ xs, o ≠ .lst xs) : b ≠ pn := ne_pen P e n
theorem Sx.pen (S : Sx K H pn l c a g ps) (e : But pn H H') (P' : PenL H' pn l c') : Sx K H' pn l c' a g ps := by
  obtain ⟨P, ⟨ys, ⟨dx, t0, r1, r2⟩, i⟩, ⟨ts, h, p⟩, t, n⟩ := S
  obtain ⟨ns, x, y, hp, _⟩ := id P
  refine ⟨P', ⟨ys, ⟨dx, t0, e _ _ r1 (ne_pen P r1 (fun _ z => nomatch z)), e _ _ r2 (ne_pen P r2 (fun _ z => nomatch z))⟩, ?_⟩, ⟨ts, e _ _ h n, p.keep fun b xs z => e _ _ z (ne_pen P z fun _ z => nomatch z)⟩, tbn_lst t e hp, n⟩
  have go : ∀ {us : List V} {rs : List (Int × Str)}, Its K H us rs → Its K H' us rs := fun {us rs} h => by
    induction h with
    | nil => exact .nil
    | cons h t ih =>
      obtain ⟨b, h1, d, h2⟩ := h
      exact .cons ⟨b, h1, d, e _ _ h2 (ne_pen P h2 fun _ z => nomatch z)⟩ ih
  exact go i
theorem Sx.mono (S : Sx K H pn l c a g ps) (h : c ≤ c') : Sx K H pn l c' a g ps := ⟨S.P.mono h, S.row, S.lst, S.tk, S.ne⟩
/-- the row is of other pairs now -/
theorem Sx.but (S : Sx K H pn l c a g ps) (e : ButN a H H') (t' : Tk K H') {ys' : List V} (r' : RowAt K H' a ys') (i' : Its K H' ys' qs) {g' : Addr} {ts' : List V} (h' : H' g' = some (.lst ts')) (p' : Prs H' ts' qs) (n' : g' ≠ pn) : Sx K H' pn l c a g' qs := by
  obtain ⟨P, ⟨ys, r, i⟩, _, t, n⟩ := S
  obtain ⟨ns, x, y, hp, hl, h3⟩ := id P
  exact ⟨⟨ns, x, y, e _ _ hp (lst_ne r hp) (fun _ z => nomatch z), e _ _ hl (lst_ne r hl) (fun _ z => nomatch z), h3⟩, ⟨ys', r', i'⟩, ⟨ts', h', p'⟩, t', n'⟩
end
/-- told(row.listed()) == pairs -/
def tTold (K : Fg) (i : Nat) : TE := tCall (spTold K) [] E0 (tCons (tMeth (ga K "Row") "listed" (spListed K) [] E0 (tVar i) tNil) tNil)
theorem told_two {K : Fg} {σ : L2.St} {H : Hp} {i : Nat} {a : Addr} {ys : List V} {ps : List (Int × Str)} {R : V → Hp → Prop} (hi : σ[i]? = some (some (.ref a))) (ra : RowAt K H a ys) (ia : Its K H ys ps) (lp : ps.length ≤ 800)
    (k : ∀ (g : Addr) (H' : Hp) (us : List V), Same H H' → H g = none → H' g = some (.lst us) → Prs H' us ps → R (.ref g) H') : tTold K i σ H R := by
  obtain ⟨da, ta, ha, hta⟩ := id ra
  refine ⟨_, hi, a, da, _, rfl, ha, rfl, a, ys, rfl, ra, fun m H5 f5 s5 g5 => ?_⟩
  refine ⟨m, ys, ps, rfl, g5, ia.same s5, by rw [its_len ia]; omega, fun g6 H6 us f6 s6 h6 pr6 => k g6 H6 us (s5.trans s6) (s5.free f6) h6 pr6⟩
theorem told_eq {K : Fg} {σ : L2.St} {H : Hp} {i j : Nat} {a g : Addr} {ys ts : List V} {ps : List (Int × Str)} {Q : VK} (hi : σ[i]? = some (some (.ref a))) (hj : σ[j]? = some (some (.ref g))) (ra : RowAt K H a ys) (ia : Its K H ys ps) (lp : ps.length ≤ 800) (hg : H g = some (.lst ts)) (pr : Prs H ts ps)
    (gd : ∀ q ∈ ps, textOk q.2 = true) (k : ∀ H', Same H H' → Q (.bl true) H') : tOp (rEqD K) (tTold K i) (tVar j) σ H Q := by
  refine told_two hi ra ia lp fun g6 H6 us s6 f6 h6 pr6 => ?_
  refine ⟨_, hj, .list (ps.map pd), .list (ps.map pd), .lst (SqL.of h6) (dp_prs pr6), .lst (SqL.of (s6 _ _ hg)) (dp_prs (prs_same s6 pr)), shaped_prs gd, shaped_prs gd, ?_⟩
  rw [eqv_prs gd]
  exact k H6 s6
theorem told_ne {K : Fg} {σ : L2.St} {H : Hp} {i j : Nat} {a g : Addr} {ys ts : List V} {ps : List (Int × Str)} {Q : VK} (hi : σ[i]? = some (some (.ref a))) (hj : σ[j]? = some (some (.ref g))) (ra : RowAt K H a ys) (ia : Its K H ys ps) (lp : ps.length ≤ 800) (hg : H g = some (.lst ts)) (pr : Prs H ts ps)
    (gd : ∀ q ∈ ps, textOk q.2 = true) (k : ∀ H', Same H H' → Q (.bl false) H') : tOp (rNeD K) (tTold K i) (tVar j) σ H Q := by
  refine told_two hi ra ia lp fun g6 H6 us s6 f6 h6 pr6 => ?_
  refine ⟨_, hj, .list (ps.map pd), .list (ps.map pd), .lst (SqL.of h6) (dp_prs pr6), .lst (SqL.of (s6 _ _ hg)) (dp_prs (prs_same s6 pr)), shaped_prs gd, shaped_prs gd, ?_⟩
  rw [eqv_prs gd]
  exact k H6 s6
def placeD (n : Int) : PyData := .tuple [.str "place", .int n]
theorem shaped_place (n : Int) : SeqAt.shaped (placeD n) = true := by
  have h : PyData.strOk "place" = true := by decide +kernel
  simp [placeD, SeqAt.shaped, PyData.canLay0, PyData.canLayAll0, PyData.depth, PyData.depthAll, h]
theorem eqv_place (n : Int) : PyData.eqv (placeD n) (placeD n) = true := by
  simp [placeD, PyData.eqv, PyData.eqvAll]
theorem dp_place {K : Fg} {H : Hp} {q : Addr} {n : Int} (h : H q = some (.tup [.str "place", .int n])) : Dp K H (.ref q) (placeD n) := .tup (SqT.of h) (.cons (.str _) (.cons (.int _) .nil))
/-- what is answered for the item at y -/
def ansAt (H : Hp) (w : Nat) : V → Option V
  | .ref b => match H b with
    | some (.ins _ _ [_, (_, .str z)]) => some (ansV w z)
    | _ => none
  | _ => none
theorem ansAt_it {K : Fg} {H : Hp} {w : Nat} {b : Addr} {i : Int} {z : Str} (h : It K H b i z) : ansAt H w (.ref b) = some (ansV w z) := by
  obtain ⟨dx, h⟩ := h
  unfold ansAt
  dsimp only
  rw [h]
theorem its_mem {K : Fg} {H : Hp} : ∀ {ys : List V} {ps : List (Int × Str)} {y : V}, Its K H ys ps → y ∈ ys → ∃ (b : Addr) (p : Int × Str), y = .ref b ∧ p ∈ ps ∧ It K H b p.1 p.2
  | _, _, y, .nil, h => nomatch h
  | _, _, y, .cons (b := p) ⟨b, h1, h2⟩ t, h => by
    rcases List.mem_cons.mp h with rfl | h
    · exact ⟨b, p, h1, List.mem_cons_self, h2⟩
    · obtain ⟨b', p', e1, e2, e3⟩ := its_mem t h
      exact ⟨b', p', e1, List.mem_cons_of_mem _ e2, e3⟩
theorem gd_sort {w : Nat} {ps : List (Int × Str)} (gd : ∀ q ∈ ps, Gd q) : ∀ q ∈ ps.mergeSort (leP w), Gd q := fun q hq => gd q ((List.mergeSort_perm _ _).mem_iff.mp hq)
end K10
namespace K10
open PySem PySem.Spec PyProof.Rows L2 He Tw
/-- what a deed is done with -/
def VlAt (K : Fg) (H : Hp) (v : Addr) : Deed → Prop
  | .op _ qs => ∃ (xs : List V) (t : Value), Opd K H v t ∧ Src K H v xs (qs.map some)
  | _ => True
theorem VlAt.same {K : Fg} {H H' : Hp} {v : Addr} (e : Same H H') : ∀ {d : Deed}, VlAt K H v d → VlAt K H' v d
  | .put _ _, _ => trivial
  | .settle, _ => trivial
  | .op _ _, ⟨xs, t, h1, h2⟩ => ⟨xs, t, h1.same e, h2.same e⟩
/-- a deed is done, or refused, at a row -/
def spDo (K : Fg) : Sp := fun vs H Q E => ∃ (N : Addr → Prop) (a dd v dx t : Addr) (ys : List V) (ps : List (Int × Str)) (d : Deed), vs = [.ref a, .ref dd, .ref v] ∧ H a = some (.ins (ga K "Row") dx [("state", .ref t)]) ∧ H t = some (.tup ys) ∧ Its K H ys ps ∧ Rw 171 ps ∧ DeedOk d ∧ DeedAt N H dd d ∧ VlAt K H v d ∧ Tk K H ∧
  ∀ (us : List (Int × Str)) (wd : Wd), Stp ps d us wd →
    (wd = none → ∀ (H' : Hp) (ys' : List V), ButN a H H' → Tk K H' → RowAt K H' a ys' → Its K H' ys' us → Q .non H') ∧
    (∀ (x : Str) (n : Int), wd = some (wordOf x, n) → x = "BadPlace" ∨ x = "Disordered" → ∀ (b : Addr) (H' : Hp), Same H H' → H' b = some (.xd [("at", .int n)]) → E (.ref (ga K x)) (some b) H')
theorem bad_fall {ps : List (Int × Str)} (few : ps.length ≤ 200) {z f : Str} {v : Int} (bad : Bad (ps.map some) z f v) : ∃ k : Nat, z = "Disordered" ∧ f = "at" ∧ v = 1 + (k : Int) ∧ FallK ps k := by
  cases bad with
  | @item n ps' h1 h2 h3 =>
    rw [List.getElem?_map] at h3
    cases e : ps[n]? with
    | none =>
      rw [e] at h3
      cases h3
    | some p =>
      rw [e] at h3
      cases h3
  | @order m ps' a b h0 h1 h2 h3 h4 =>
    have ep := some_inj h0
    subst ep
    exact ⟨m, rfl, rfl, rfl, a, b, h1, h2, h3, h4⟩
  | @many ps' h0 h1 h2 =>
    have ep := some_inj h0
    subst ep
    omega
abbrev s_do : Stmt := topS 41
abbrev N_do : List Str := ["_law_row", "_law_deed_here", "_law_values_here"]
theorem sc_do : FnScope N_do ["_law_row", "_law_deed_here", "_law_values_here"] (defScope s_do) := ⟨rfl, rfl, rfl, by decide +kernel, rfl, by decide +kernel, by decide +kernel⟩
section
variable {P : Program} {w : World} {K : Fg} {mg : Str → Option Value} {base : Heap} {fd : Nat → FuncData}
theorem G_do (D : DefsK K fd) (T : Txt K mg) (tb : TBs K mg base) : FnOk P w K mg base (L2.CX P w) 10 (ga K "_law_do") (fd 33) ["_law_row", "_law_deed_here", "_law_values_here"] (spDo K) := by
  have b_iadd : Binds K (fd 9) ["self", "other"] [] := (show FnP K "__iadd__" "Row.__iadd__" s_iadd (ma K (ga K "Row") "__iadd__") (fd 9) from D 9 _ rfl).bindsN fun _ _ _ _ _ _ us hl => match us, hl with | [_, _], _ => rfl
  have o_iadd : OwnB K (ga K "Row") "__iadd__" (ma K (ga K "Row") "__iadd__") := T.own (by decide +kernel)
  have b_ior : Binds K (fd 10) ["self", "other"] [] := (show FnP K "__ior__" "Row.__ior__" s_ior (ma K (ga K "Row") "__ior__") (fd 10) from D 10 _ rfl).bindsN fun _ _ _ _ _ _ us hl => match us, hl with | [_, _], _ => rfl
  have o_ior : OwnB K (ga K "Row") "__ior__" (ma K (ga K "Row") "__ior__") := T.own (by decide +kernel)
  have b_iand : Binds K (fd 11) ["self", "other"] [] := (show FnP K "__iand__" "Row.__iand__" s_iand (ma K (ga K "Row") "__iand__") (fd 11) from D 11 _ rfl).bindsN fun _ _ _ _ _ _ us hl => match us, hl with | [_, _], _ => rfl
  have o_iand : OwnB K (ga K "Row") "__iand__" (ma K (ga K "Row") "__iand__") := T.own (by decide +kernel)
  have b_isub : Binds K (fd 12) ["self", "other"] [] := (show FnP K "__isub__" "Row.__isub__" s_isub (ma K (ga K "Row") "__isub__") (fd 12) from D 12 _ rfl).bindsN fun _ _ _ _ _ _ us hl => match us, hl with | [_, _], _ => rfl
  have o_isub : OwnB K (ga K "Row") "__isub__" (ma K (ga K "Row") "__isub__") := T.own (by decide +kernel)
  have b_ixor : Binds K (fd 13) ["self", "other"] [] := (show FnP K "__ixor__" "Row.__ixor__" s_ixor (ma K (ga K "Row") "__ixor__") (fd 13) from D 13 _ rfl).bindsN fun _ _ _ _ _ _ us hl => match us, hl with | [_, _], _ => rfl
  have o_ixor : OwnB K (ga K "Row") "__ixor__" (ma K (ga K "Row") "__ixor__") := T.own (by decide +kernel)
  have gI : mg "Item" = some (.ref (ga K "Item")) := T.cl (by decide +kernel)
  obtain ⟨d2, I⟩ := itm (P := P) (w := w) (base := base) D T
  have mSet := T.mtR2 (m := "__setitem__") (by decide +kernel)
  have mS := T.mtR2 (m := "settle") (by decide +kernel)
  have FSe : FnP K "settle" "Row.settle" s_sl (ma K (ga K "Row") "settle") (fd 46) := D 46 _ rfl
  have bSe : Binds K (fd 46) ["self", "by"] [] := FSe.bindsN fun _ _ _ _ _ _ us hl => match us, hl with | [_, _], _ => rfl
  have RSe : ∀ base' : Heap, Sub base base' → FnR P w K mg base' (L2.CX P w) 8 _ (spSl P w K mg base') := fun base' s => (FnOk.raw (G_sl D T (tb.up s)) bSe .nil).imp fun vs H Q E h => by rw [List.append_nil]; exact h
  have TB := tb (fun K => ga K "_law_do") (by simp [tabs])
  have F : FnP K "_law_do" "_law_do" s_do (ga K "_law_do") (fd 33) := D 33 _ rfl
  obtain ⟨oc, od, dV, kV, doc, pm, an, cdv, ct, osl, e0, lk, hcd, _, _⟩ := F.ex
  rw [e0] at lk ⊢
  obtain ⟨cc, rfl⟩ := codeIn_ref hcd
  have ec : Tw.codeAt K (ga K "_law_do") = cc := by
    unfold Tw.codeAt
    rw [lk]
  rw [ec] at TB
  have hmT : (tabAt K (ga K "_law_do"), nm "_law_do") ∈ Tb K := by simp [Tb]
  refine fn_of lk hcd sc_do (fun vs H Q E h => ?_) (fun A outer s H vs Q E hr h => ?_)
  · obtain ⟨N, a, dd, v, dx, t, ys, ps, d, rfl, _⟩ := h
    rfl
  · obtain ⟨N, a, dd, v, dx, t, ys, ps, d, rfl, ha, ht, its, rw0, ok, hd, hv, hT, k⟩ := h
    refine ⟨_, (pss_one (ps_if (pt_cmpR op_eq (pe_ix (ixt K) (pv 1) pe_int (fun _ _ => rfl)) pe_str (nomark _)) (pss_one (ps_asg (pe_make (E := E0) T.mkI I.ok (hr.mono (by decide)) rfl gI I.b .nil passL (pa_cons (pe_ix (ixt K) (pe_ix (ixt K) (pv 1) pe_int (fun _ _ => rfl)) pe_int (fun _ _ => rfl)) (pa_cons (pe_ix (ixt K) (pe_ix (ixt K) (pv 1) pe_int (fun _ _ => rfl)) pe_int (fun _ _ => rfl)) pa_nil))) (pg_sub (pv 0) (pe_ix (ixt K) (pv 1) pe_int (fun _ _ => rfl)) (pset_own (E := E) T.noSeq mSet.at_ mSet.fn (G_set D T) (hr.mono (by decide)) (b_set D) (passes_call (takes_of rfl rfl rfl rfl) (fun _ _ _ _ h => h))))))
      (pss_one (ps_if (pt_cmpR op_eq (pe_ix (ixt K) (pv 1) pe_int (fun _ _ => rfl)) pe_str (nomark _)) (pss_one (ps_expr (pe_lamM (E := fun _ => E) (host := host) (L := Tb K) (pre := fun _ => True) (k := 5) (xs := ["_law_item"]) (cs := []) (caps := []) (tb := fun c' P' E => tFld K (tVar 0) "name") (Pr := P) (wo := w) (K := K) (mg := mg) (qn := nm "_law_do") (pv 0) T.clsR mS
        (by exact ⟨made_def TB rfl hmT, bmIn TB, cellsOut_def (fun _ => rfl), lamQ_by (sc := defScope s_do) (by decide +kernel), (caps_by (N := N_do) (by decide +kernel)), rfl, by decide +kernel, rfl, (fun us _ _ _ _ _ hu => match us, hu with | [_], _ => rfl),
          (fun base A outer s1 H1 E f c' P' hsub hr2 hout => fldK K (pe_var (x := "_law_item") (i := 0) rfl (.inl rfl)))⟩)
        RSe (hr.mono (by decide)) (fun σ => fun pins H s e s' I c => (passes_call (takes_of rfl rfl rfl rfl) (fun _ _ _ _ h => h)) pins σ H s e s' I c))))
      (pss_one (ps_if (pt_cmpR op_eq (pe_ix (ixt K) (pv 1) pe_int (fun _ _ => rfl)) pe_str (nomark _)) (pss_one (ps_aug (i := 0) sc_do.nd rfl (.inl rfl) (pv 2) (in_own (op := .Add) (E := E) o_iadd (ok_iadd D T) (hr.mono (by decide)) b_iadd (passes_call (takes_of rfl rfl rfl rfl) (fun _ _ _ _ h => h)))))
      (pss_one (ps_if (pt_cmpR op_eq (pe_ix (ixt K) (pv 1) pe_int (fun _ _ => rfl)) pe_str (nomark _)) (pss_one (ps_aug (i := 0) sc_do.nd rfl (.inl rfl) (pv 2) (in_own (op := .BitOr) (E := E) o_ior (ok_ior D T) (hr.mono (by decide)) b_ior (passes_call (takes_of rfl rfl rfl rfl) (fun _ _ _ _ h => h)))))
      (pss_one (ps_if (pt_cmpR op_eq (pe_ix (ixt K) (pv 1) pe_int (fun _ _ => rfl)) pe_str (nomark _)) (pss_one (ps_aug (i := 0) sc_do.nd rfl (.inl rfl) (pv 2) (in_own (op := .BitAnd) (E := E) o_iand (ok_iand D T) (hr.mono (by decide)) b_iand (passes_call (takes_of rfl rfl rfl rfl) (fun _ _ _ _ h => h)))))
      (pss_one (ps_if (pt_cmpR op_eq (pe_ix (ixt K) (pv 1) pe_int (fun _ _ => rfl)) pe_str (nomark _)) (pss_one (ps_aug (i := 0) sc_do.nd rfl (.inl rfl) (pv 2) (in_own (op := .Sub) (E := E) o_isub (ok_isub D T) (hr.mono (by decide)) b_isub (passes_call (takes_of rfl rfl rfl rfl) (fun _ _ _ _ h => h)))))
      (pss_one (ps_aug (i := 0) sc_do.nd rfl (.inl rfl) (pv 2) (in_own (op := .BitXor) (E := E) o_ixor (ok_ixor D T) (hr.mono (by decide)) b_ixor (passes_call (takes_of rfl rfl rfl rfl) (fun _ _ _ _ h => h))))))))))))))))), ?_⟩
    have lm : ps.length ≤ 171 := rw0.few
    cases d with
    | put i q =>
      obtain ⟨tq, hdd, hq⟩ := hd
      refine ⟨_, rfl, dd, _, 0, .str "put", rfl, rfl, SqT.of hdd, rfl, rfl, _, rfl, iteTe (decide_eq_true rfl) ?_⟩
      refine ⟨_, rfl, dd, _, 2, .ref tq, rfl, rfl, SqT.of hdd, rfl, tq, _, 0, .int q.1, rfl, rfl, SqT.of hq, rfl, _, rfl, dd, _, 2, .ref tq, rfl, rfl, SqT.of hdd, rfl, tq, _, 1, .str q.2, rfl, rfl, SqT.of hq, rfl, fun x bx hx hbx hne => ?_⟩
      refine item_mk hx hbx hne (gd_rank ok.gd) (show nameOk (.str q.2) = true from ok.2.1) (Nat.le_trans ok.2.2 (by decide)) fun H1 I1 s1 => ⟨rfl, ?_⟩
      have ra : RowAt K H1 a ys := ⟨dx, t, s1 _ _ ha, s1 _ _ ht⟩
      refine ⟨_, rfl, _, rfl, dd, _, 1, .int (i : Nat), rfl, rfl, SqT.of (s1 _ _ hdd), rfl, ?_⟩
      refine ⟨a, dx, _, rfl, s1 _ _ ha, a, (i : Int), .ref x, ys, ps, rfl, ra, its.same s1, by omega, fun far d H2 s2 g2 => ?_, fun _ near => ?_⟩
      · exact (k _ _ (.far (by omega))).2 "BadPlace" _ rfl (.inl rfl) d H2 (s1.trans s2) g2
      · have hi : i < ps.length := by omega
        have es : (ps.map some).set ((i : Nat) : Int).toNat (some q) = (ps.set i q).map some := by rw [List.map_set]; rfl
        refine ⟨some q, .item I1, fun ps' eq up H2 ys' B r i2 => ?_, fun n f vv bad d H2 s2 g2 => ?_⟩
        · rw [es] at eq
          have e2 := some_inj eq
          subst e2
          exact (k _ _ (.put hi up)).1 rfl H2 ys' (ButN.but ((But.of s1).trans B)) (tbn_but (Tbn.ext hT s1) B ⟨_, _, _, s1 _ _ ha⟩) r i2
        · rw [es] at bad
          obtain ⟨j, rfl, rfl, rfl, fj⟩ := bad_fall (by rw [List.length_set]; omega) bad
          exact (k _ _ (.bad hi fj)).2 "Disordered" _ rfl (.inr rfl) d H2 (s1.trans s2) g2
    | settle =>
      obtain ⟨e, hdd⟩ := hd
      refine ⟨_, rfl, dd, _, 0, .str "settle", rfl, rfl, SqT.of hdd, rfl, rfl, _, rfl, iteFe (decide_eq_false fun z => absurd (V.str.inj z) (by decide)) ?_⟩
      refine ⟨_, rfl, dd, _, 0, .str "settle", rfl, rfl, SqT.of hdd, rfl, rfl, _, rfl, iteTe (decide_eq_true rfl) ?_⟩
      refine ⟨_, rfl, a, dx, _, rfl, ha, rfl, hT, trivial, fun f c' P' H2 base' e2 T2 _ hcc hfa FL => ?_⟩
      have ha2 := e2 _ _ ha fun _ z => nomatch z
      have ht2 := e2 _ _ ht fun _ z => nomatch z
      have ia2 := its_ext e2 its
      refine ⟨a, f, dx, t, ys, ps, _, ansAt H2 0, rfl, ha2, ht2, ia2, by omega, hfa, FL, T2, fun y hy H' Q' s' ky => ?_, .inr ⟨0, fun i y p hy hp => ?_, fun H3 t' ys' bn T3 h3 h4 i3 => ?_⟩⟩
      · obtain ⟨b, p, rfl, hp, It2⟩ := its_mem ia2 hy
        obtain ⟨db, hb⟩ := id It2
        refine ⟨rfl, s' _ _ hcc, _, rfl, b, _, db, _, _, rfl, s' _ _ hb, T.cls, T.na (by decide +kernel), rfl, ?_⟩
        exact ky _ (ansAt_it It2) H' (Same.refl _)
      · obtain ⟨b, eb, It2⟩ := its_at ia2 hp
        rw [hy] at eb
        cases eb
        exact ansAt_it It2
      · exact (k _ _ .settle).1 rfl H3 ys' (fun b u h n1 n2 => bn _ _ (e2 b u h n2) n1 n2) T3 ⟨dx, t', h3, h4⟩ i3
    | op s qs =>
      obtain ⟨f, us, hdd, nf, hf, pq⟩ := hd
      obtain ⟨hs, gd, gs, lq⟩ := ok
      have ns : s ≠ "put" ∧ s ≠ "settle" := by
        refine ⟨fun z => ?_, fun z => ?_⟩ <;> · rw [z] at hs; exact absurd hs (by decide)
      refine ⟨_, rfl, dd, _, 0, .str s, rfl, rfl, SqT.of hdd, rfl, rfl, _, rfl, iteFe (decide_eq_false fun z => ns.1 (V.str.inj z)) ?_⟩
      refine ⟨_, rfl, dd, _, 0, .str s, rfl, rfl, SqT.of hdd, rfl, rfl, _, rfl, iteFe (decide_eq_false fun z => ns.2 (V.str.inj z)) ?_⟩
      obtain ⟨xs, tv, opd, src⟩ := hv
      have ra : RowAt K H a ys := ⟨dx, t, ha, ht⟩
      have fin : ∀ {Q' : VK}, (∀ H', Q .non H' → Q' (.ref a) H') → spIn K s [.ref a, .ref v] H Q' E := fun {Q'} kq => by
        refine ⟨a, v, ys, xs, ps, qs.map some, tv, rfl, ra, its, asc_up rw0.asc, by omega, opd, src, fun qs' eq uq lq => ?_, fun n f vv bad d H2 s2 g2 => ?_⟩
        · have e2 := some_inj eq
          subst e2
          refine ⟨few_len (by omega), fun ns R => ⟨fun _ H' us' B r i2 => kq H' ?_, fun big => absurd (takenL_len (sign := s) R) (by omega)⟩⟩
          exact (k _ _ (.op uq R)).1 rfl H' us' (ButN.but B) (tbn_but hT B ⟨_, _, _, ha⟩) r i2
        · obtain ⟨j, rfl, rfl, rfl, fj⟩ := bad_fall (by omega) bad
          exact (k _ _ (.opBad fj)).2 "Disordered" _ rfl (.inr rfl) d H2 s2 g2
      refine ⟨_, rfl, dd, _, 0, .str s, rfl, rfl, SqT.of hdd, rfl, rfl, _, rfl, ite2 (fun hz => ?_) (fun h0 => ?_)⟩
      · have e : s = "+" := V.str.inj (of_decide_eq_true hz)
        subst e
        exact ⟨_, rfl, _, rfl, a, dx, _, rfl, ha, fin fun H' q => q⟩
      have n0 : s ≠ "+" := fun e => h0 (by rw [e]; exact decide_eq_true rfl)
      refine ⟨_, rfl, dd, _, 0, .str s, rfl, rfl, SqT.of hdd, rfl, rfl, _, rfl, ite2 (fun hz => ?_) (fun h1 => ?_)⟩
      · have e : s = "|" := V.str.inj (of_decide_eq_true hz)
        subst e
        exact ⟨_, rfl, _, rfl, a, dx, _, rfl, ha, fin fun H' q => q⟩
      have n1 : s ≠ "|" := fun e => h1 (by rw [e]; exact decide_eq_true rfl)
      refine ⟨_, rfl, dd, _, 0, .str s, rfl, rfl, SqT.of hdd, rfl, rfl, _, rfl, ite2 (fun hz => ?_) (fun h2 => ?_)⟩
      · have e : s = "&" := V.str.inj (of_decide_eq_true hz)
        subst e
        exact ⟨_, rfl, _, rfl, a, dx, _, rfl, ha, fin fun H' q => q⟩
      have n2 : s ≠ "&" := fun e => h2 (by rw [e]; exact decide_eq_true rfl)
      refine ⟨_, rfl, dd, _, 0, .str s, rfl, rfl, SqT.of hdd, rfl, rfl, _, rfl, ite2 (fun hz => ?_) (fun h3 => ?_)⟩
      · have e : s = "-" := V.str.inj (of_decide_eq_true hz)
        subst e
        exact ⟨_, rfl, _, rfl, a, dx, _, rfl, ha, fin fun H' q => q⟩
      have n3 : s ≠ "-" := fun e => h3 (by rw [e]; exact decide_eq_true rfl)
      have e : s = "^" := by
        simp only [signs, List.mem_cons, List.not_mem_nil, or_false] at hs
        rcases hs with hs | hs | hs | hs | hs
        · exact absurd hs n0
        · exact absurd hs n1
        · exact absurd hs n2
        · exact absurd hs n3
        · exact hs
      subst e
      exact ⟨_, rfl, _, rfl, a, dx, _, rfl, ha, fin fun H' q => q⟩
end
end K10
namespace K10
open PySem PySem.Spec PyProof.Rows L2 He Tw
theorem its_keep {K : Fg} {H H' : Hp} (k : ∀ a dx i z, H a = some (.ins (ga K "Item") dx [("rank", .int i), ("name", .str z)]) → H' a = some (.ins (ga K "Item") dx [("rank", .int i), ("name", .str z)])) : ∀ {ys : List V} {ps : List (Int × Str)}, Its K H ys ps → Its K H' ys ps
  | _, _, .nil => .nil
  | _, _, .cons ⟨a, h1, dx, h2⟩ r => .cons ⟨a, h1, dx, k _ _ _ _ h2⟩ (its_keep k r)
/-- the values of a deed, told by what stands there -/
def VlC (K : Fg) (H : Hp) (v : Addr) : Deed → Prop
  | .op _ qs => (∃ xs : List V, (H v = some (.lst xs) ∨ H v = some (.tup xs)) ∧ Vals' K H xs qs) ∨ ∃ zs, RowAt K H v zs ∧ Its K H zs qs
  | _ => True
theorem VlC.vl {K : Fg} {H : Hp} {v : Addr} : ∀ {d : Deed}, VlC K H v d → DeedOk d → VlAt K H v d
  | .put _ _, _, _ => trivial
  | .settle, _, _ => trivial
  | .op _ _, .inl ⟨xs, .inl h, vv⟩, ok => ⟨xs, _, .lst h, vals_src (.inl (SqL.of h)) vv (by have := ok.2.2.2; omega)⟩
  | .op _ _, .inl ⟨xs, .inr h, vv⟩, ok => ⟨xs, _, .tup h, vals_src (.inr (.inl (SqT.of h))) vv (by have := ok.2.2.2; omega)⟩
  | .op _ _, .inr ⟨zs, ⟨dx, t, h1, h2⟩, i⟩, ok => ⟨zs, _, .row h1, its_src (.inr (.inr ⟨dx, t, h1, h2⟩)) i (by have := ok.2.2.2; omega)⟩
theorem VlC.keep {K : Fg} {H H' : Hp} {v : Addr} (kv : ∀ u, H v = some u → (∀ xs, u ≠ .tbl xs) → H' v = some u) (kt : ∀ b xs, H b = some (.tup xs) → H' b = some (.tup xs))
    (ki : ∀ a dx i z, H a = some (.ins (ga K "Item") dx [("rank", .int i), ("name", .str z)]) → H' a = some (.ins (ga K "Item") dx [("rank", .int i), ("name", .str z)])) : ∀ {d : Deed}, VlC K H v d → VlC K H' v d
  | .put _ _, _ => trivial
  | .settle, _ => trivial
  | .op _ _, .inl ⟨xs, .inl h, vv⟩ => .inl ⟨xs, .inl (kv _ h (fun _ z => nomatch z)), vv.keep ki⟩
  | .op _ _, .inl ⟨xs, .inr h, vv⟩ => .inl ⟨xs, .inr (kt _ _ h), vv.keep ki⟩
  | .op _ _, .inr ⟨zs, ⟨dx, t, h1, h2⟩, i⟩ => .inr ⟨zs, ⟨dx, t, kv _ h1 (fun _ z => nomatch z), kt _ _ h2⟩, its_keep ki i⟩
/-- a deed with its values -/
structure DvAt (K : Fg) (H : Hp) (N : Addr → Prop) (dd v : Addr) (d : Deed) : Prop where
  de : DeedAt N H dd d
  vl : VlC K H v d
  nv : N v
theorem DvAt.keep {K : Fg} {H H' : Hp} {N : Addr → Prop} {dd v : Addr} {d : Deed} (h : DvAt K H N dd v d) (kn : ∀ b u, N b → H b = some u → (∀ xs, u ≠ .tbl xs) → H' b = some u) (kt : ∀ b xs, H b = some (.tup xs) → H' b = some (.tup xs))
    (ki : ∀ a dx i z, H a = some (.ins (ga K "Item") dx [("rank", .int i), ("name", .str z)]) → H' a = some (.ins (ga K "Item") dx [("rank", .int i), ("name", .str z)])) : DvAt K H' N dd v d :=
  ⟨h.de.keep kt fun b xs n z => ⟨n, kn _ _ n z fun _ y => nomatch y⟩, h.vl.keep (fun u z n => kn _ _ h.nv z n) kt ki, h.nv⟩
theorem DvAt.same {K : Fg} {H H' : Hp} {N : Addr → Prop} {dd v : Addr} {d : Deed} (h : DvAt K H N dd v d) (e : Same H H') : DvAt K H' N dd v d :=
  h.keep (fun _ _ _ z _ => e _ _ z) (fun _ _ z => e _ _ z) (fun _ _ _ _ z => e _ _ z)
theorem DvAt.row {K : Fg} {H H' : Hp} {N : Addr → Prop} {a dd v : Addr} {d : Deed} {ys : List V} (hN : ∀ b, N b → b ≠ a) (ra : RowAt K H a ys) (h : DvAt K H N dd v d) (e : ButN a H H') : DvAt K H' N dd v d := by
  obtain ⟨dx, t, ha, ht⟩ := ra
  refine h.keep (fun b u n z y => e _ _ z (hN b n) y) (fun b xs z => e _ _ z (fun q => ?_) fun _ y => nomatch y) (fun b d2 i z hb => e _ _ hb (fun q => ?_) fun _ y => nomatch y)
  · rw [q, ha] at z
    cases z
  · rw [q, ha] at hb
    injection hb with hb
    injection hb with _ _ h3
    cases h3
theorem DvAt.lst {K : Fg} {H H' : Hp} {N : Addr → Prop} {p dd v : Addr} {d : Deed} {ys : List V} (hN : ∀ b, N b → b ≠ p) (hp : H p = some (.lst ys)) (h : DvAt K H N dd v d) (e : But p H H') : DvAt K H' N dd v d := by
  refine h.keep (fun b u n z _ => e _ _ z (hN b n)) (fun b xs z => e _ _ z fun q => ?_) (fun b d2 i z hb => e _ _ hb fun q => ?_)
  · rw [q, hp] at z
    cases z
  · rw [q, hp] at hb
    cases hb
theorem DvAt.pen {K : Fg} {H H' : Hp} {N : Addr → Prop} {pn l dd v : Addr} {c : Nat} {d : Deed} (hN : ∀ b, N b → b ≠ pn) (P : PenL H pn l c) (h : DvAt K H N dd v d) (e : But pn H H') : DvAt K H' N dd v d := by
  obtain ⟨ns, i, g, h1, _⟩ := P
  exact h.lst hN h1 e
theorem DvAt.ext {K : Fg} {H H' : Hp} {N : Addr → Prop} {dd v : Addr} {d : Deed} (h : DvAt K H N dd v d) (e : LamX.ExtN H H') : DvAt K H' N dd v d :=
  h.keep (fun _ _ _ z n => e _ _ z n) (fun _ _ z => e _ _ z fun _ y => nomatch y) (fun _ _ _ _ z => e _ _ z fun _ y => nomatch y)
/-- deeds one after another, each with its values -/
def DsAt (K : Fg) (H : Hp) (N : Addr → Prop) (dvs ovs : List V) (ds : List Deed) : Prop := dvs.length = ds.length ∧ ovs.length = ds.length ∧ ∀ (i : Nat) (d : Deed), ds[i]? = some d → ∃ dd v : Addr, dvs[i]? = some (.ref dd) ∧ ovs[i]? = some (.ref v) ∧ DvAt K H N dd v d
theorem DsAt.map {K : Fg} {H H' : Hp} {N : Addr → Prop} {dvs ovs : List V} {ds : List Deed} (h : DsAt K H N dvs ovs ds) (f : ∀ {dd v : Addr} {d : Deed}, DvAt K H N dd v d → DvAt K H' N dd v d) : DsAt K H' N dvs ovs ds := by
  obtain ⟨h1, h2, h3⟩ := h
  refine ⟨h1, h2, fun i d hi => ?_⟩
  obtain ⟨dd, v, e1, e2, x⟩ := h3 i d hi
  exact ⟨dd, v, e1, e2, f x⟩
theorem DsAt.snoc {K : Fg} {H : Hp} {N : Addr → Prop} {dd v : Addr} {dvs ovs : List V} {ds : List Deed} {d : Deed} (h : DsAt K H N dvs ovs ds) (x : DvAt K H N dd v d) : DsAt K H N (dvs ++ [.ref dd]) (ovs ++ [.ref v]) (ds ++ [d]) := by
  obtain ⟨h1, h2, h3⟩ := h
  refine ⟨by simp [h1], by simp [h2], fun i e hi => ?_⟩
  have hl : i < (ds ++ [d]).length := (List.getElem?_eq_some_iff.mp hi).1
  rw [List.length_append, List.length_singleton] at hl
  by_cases z : i < ds.length
  · rw [List.getElem?_append_left z] at hi
    obtain ⟨d2, v2, e1, e2, x2⟩ := h3 i e hi
    exact ⟨d2, v2, by rw [List.getElem?_append_left (by omega)]; exact e1, by rw [List.getElem?_append_left (by omega)]; exact e2, x2⟩
  · have e0 : i = ds.length := by omega
    subst e0
    rw [List.getElem?_append_right (Nat.le_refl _), Nat.sub_self] at hi
    cases hi
    exact ⟨dd, v, by rw [List.getElem?_append_right (by omega), h1, Nat.sub_self]; rfl, by rw [List.getElem?_append_right (by omega), h2, Nat.sub_self]; rfl, x⟩
def spAll (K : Fg) : Sp := fun vs H Q E => ∃ (N : Addr → Prop) (a D O dx t : Addr) (ys dvs ovs : List V) (ps us : List (Int × Str)) (ds : List Deed) (wd : Wd), vs = [.ref a, .ref D, .ref O] ∧ (∀ b, N b → b ≠ a) ∧ H a = some (.ins (ga K "Row") dx [("state", .ref t)]) ∧ H t = some (.tup ys) ∧ Its K H ys ps ∧ Rw 60 ps ∧ ds.length ≤ 4 ∧ (∀ d ∈ ds, DeedOk d) ∧ H D = some (.lst dvs) ∧ H O = some (.lst ovs) ∧ DsAt K H N dvs ovs ds ∧ Tk K H ∧ Runs ps ds us wd ∧
  (wd = none → ∀ (H' : Hp) (ys' : List V), ButN a H H' → Tk K H' → RowAt K H' a ys' → Its K H' ys' us → Q .non H') ∧
  (∀ (x : Str) (n : Int), wd = some (wordOf x, n) → x = "BadPlace" ∨ x = "Disordered" → ∀ (b : Addr) (H' : Hp), ButN a H H' → Tk K H' → (∃ s1, StAt K H' a s1) → H' b = some (.xd [("at", .int n)]) → E (.ref (ga K x)) (some b) H')
theorem Runs.none {ps us : List (Int × Str)} {ds : List Deed} {wd : Wd} (h : Runs ps ds us wd) : ds = [] → wd = none := by
  cases h with
  | nil => exact fun _ => rfl
  | snoc => exact fun z => absurd z (by simp)
theorem Stp.word {ps us : List (Int × Str)} {d : Deed} {wd : Wd} (h : Stp ps d us wd) : wd = none ∨ ∃ (x : Str) (n : Int), wd = some (wordOf x, n) ∧ (x = "BadPlace" ∨ x = "Disordered") := by
  cases h with
  | far => exact .inr ⟨"BadPlace", _, rfl, .inl rfl⟩
  | bad => exact .inr ⟨"Disordered", _, rfl, .inr rfl⟩
  | opBad => exact .inr ⟨"Disordered", _, rfl, .inr rfl⟩
  | _ => exact .inl rfl
abbrev s_all : Stmt := topS 44
abbrev N_all : List Str := ["_law_row", "_law_deeds", "_law_others", "_law_k"]
theorem sc_all : FnScope N_all ["_law_row", "_law_deeds", "_law_others"] (defScope s_all) := ⟨rfl, rfl, rfl, by decide +kernel, rfl, by decide +kernel, by decide +kernel⟩
section
variable {P : Program} {w : World} {K : Fg} {mg : Str → Option Value} {base : Heap} {fd : Nat → FuncData}
theorem G_all (D : DefsK K fd) (T : Txt K mg) (tb : TBs K mg base) : FnOk P w K mg base (L2.CX P w) 11 (ga K "_law_all") (fd 36) ["_law_row", "_law_deeds", "_law_others"] (spAll K) := by
  have zlen : mg "len" = none := T.bl (by decide +kernel)
  have zr : mg "range" = none := T.bl (by decide +kernel)
  have gD := T.fn (x := "_law_do") (by decide +kernel)
  have FD : FnP K "_law_do" "_law_do" s_do (ga K "_law_do") (fd 33) := D 33 _ rfl
  have GD : FnOk P w K mg base (L2.CX P w) 10 _ (fd 33) ["_law_row", "_law_deed_here", "_law_values_here"] (spDo K) := G_do D T tb
  have bD : Binds K (fd 33) ["_law_row", "_law_deed_here", "_law_values_here"] [] := FD.bindsN fun _ _ _ _ _ _ us hl => match us, hl with | [_, _, _], _ => rfl
  have F : FnP K "_law_all" "_law_all" s_all (ga K "_law_all") (fd 36) := D 36 _ rfl
  refine F.ok sc_all (fun vs H Q E h => ?_) (fun cdv A outer s H vs Q E hr h => ?_)
  · obtain ⟨N, a, DD, O, dx, t, ys, dvs, ovs, ps, us, ds, wd, rfl, _⟩ := h
    rfl
  · obtain ⟨N, a, DD, O, dx, t, ys, dvs, ovs, ps, us, ds, wd, rfl, hN, ha, ht, its, rw0, l4, ok, hD, hO, hds, hT, run, k1, k2⟩ := h
    refine ⟨_, (pss_one (ps_for (passes_of rfl) rfl (pi_range1 rfl zr (pa_cons (pe_callB call_len (by rfl) zlen (by decide +kernel) (pa_cons (pv 1) pa_nil)) pa_nil)) (pg_name (i := 3) sc_all.nd rfl (Or.inl rfl))
      (pss_one (ps_expr (pe_call (E := E) GD (hr.mono (by decide)) rfl gD FD.kp bD .nil (passes_call (takes_of rfl rfl rfl rfl) (fun _ _ _ _ h => h)) (pa_cons (pv 0) (pa_cons (pe_ix (ixl K) (pv 1) (pv 3) (fun _ _ => rfl)) (pa_cons (pe_ix (ixl K) (pv 2) (pv 3) (fun _ _ => rfl)) pa_nil)))))))), ?_⟩
    have ra : RowAt K H a ys := ⟨dx, t, ha, ht⟩
    obtain ⟨q1, q2, q3⟩ := id hds
    have nD := lst_ne ra hD
    have nO := lst_ne ra hO
    refine ⟨_, rfl, .ref DD, dvs.length, rfl, .inl ⟨dvs, SqL.of hD, rfl⟩, (ds.length : Int), by rw [q1], by omega, by omega, for_range (lo := 0) (n := ((ds.length : Int)).toNat) (fun i σ H' => ∃ (v3 : Option V) (ys' : List V) (vs : List (Int × Str)), σ = [some (.ref a), some (.ref DD), some (.ref O), v3] ∧ ButN a H H' ∧ Tk K H' ∧ RowAt K H' a ys' ∧ Its K H' ys' vs ∧ Runs ps (ds.take i) vs none) ⟨none, ys, ps, rfl, ButN.but (But.of fun _ _ e => e), hT, ra, its, .nil⟩ ?_ ?_⟩
    · rintro i σ H1 hi ⟨v3, ys', vs, rfl, B1, T1, r1, i1, rn⟩
      have hl : i < ds.length := by omega
      obtain ⟨d, ed⟩ : ∃ d, ds[i]? = some d := ⟨_, List.getElem?_eq_getElem hl⟩
      obtain ⟨dd, v, e1, e2, dv⟩ := q3 i d ed
      have dv1 := DvAt.row hN ra dv B1
      have okd := ok d (List.mem_of_getElem? ed)
      obtain ⟨vs', xs, wv, rn', st, n1, n2⟩ := run.at ed
      obtain ⟨ev, _⟩ := rn.uniq rn'
      subst ev
      have rw1 := rn.rw rw0 fun x hx => ok x (List.mem_of_mem_take hx)
      rw [List.length_take] at rw1
      obtain ⟨d1, t1, ha1, ht1⟩ := id r1
      have e1' : atI dvs (0 + (i : Int)) = some (.ref dd) := by rw [Int.zero_add]; exact atI_nat e1
      have e2' : atI ovs (0 + (i : Int)) = some (.ref v) := by rw [Int.zero_add]; exact atI_nat e2
      refine ⟨_, rfl, _, rfl, _, rfl, DD, dvs, _, .ref dd, rfl, rfl, SqL.of (B1 _ _ hD nD fun _ z => nomatch z), e1', _, rfl, _, rfl, O, ovs, _, .ref v, rfl, rfl, SqL.of (B1 _ _ hO nO fun _ z => nomatch z), e2', ?_⟩
      refine ⟨N, a, dd, v, d1, t1, ys', vs, d, rfl, ha1, ht1, i1, ⟨rw1.asc, rw1.gs, Nat.le_trans rw1.few (by omega)⟩, okd, dv1.de, dv1.vl.vl okd, T1, fun us2 w2 st2 => ⟨fun hw H2 ys2 B2 T2 r2 i2 => ?_, fun x n hw hx b H2 s2 g2 => ?_⟩⟩
      · subst hw
        refine ⟨_, ys2, us2, rfl, B1.trans B2, T2, r2, i2, ?_⟩
        have := Runs.snoc rn st2
        rw [List.take_add_one, ed]
        exact this
      · obtain ⟨z1, z2⟩ := st.uniq st2
        have last : i + 1 = ds.length := by
          by_cases y : i + 1 < ds.length
          · rw [n1 y] at z2
            rw [hw] at z2
            cases z2
          · omega
        exact k2 x n (by rw [← (n2 last).2, z2]; exact hw) hx b H2 (B1.trans (ButN.but (But.of s2))) (Tbn.ext T1 s2) ⟨t1, d1, s2 _ _ ha1⟩ g2
    · rintro σ H1 ⟨v3, ys', vs, rfl, B1, T1, r1, i1, rn⟩
      rw [show ((ds.length : Int)).toNat = ds.length by omega, List.take_length] at rn
      obtain ⟨z1, z2⟩ := run.uniq rn
      subst z1
      exact k1 z2 H1 ys' B1 T1 r1 i1
end
end K10
namespace K10
open PySem PySem.Spec PyProof.Rows L2 He Tw
/-- a deed drawn -/
def spDeed : Sp := fun vs H Q _ => ∃ (pn l g : Addr) (c : Nat) (ts : List V) (ps : List (Int × Str)), vs = [.ref pn, .ref g] ∧ PenL H pn l c ∧ c ≤ 400000 ∧ H g = some (.lst ts) ∧ g ≠ pn ∧ Prs H ts ps ∧ Rw 200 ps ∧
  ∀ (d : Deed) (dd : Addr) (H' : Hp), DeedOk d → DeedAt (fun b => H b = none) H' dd d → PenL H' pn l (c + 500) → But pn H H' → Q (.ref dd) H'
theorem cut_mem {xs : List V} {lo hi : Option Int} {x : V} (h : x ∈ cutV xs lo hi) : x ∈ xs := by
  unfold cutV at h
  exact List.mem_of_mem_drop (List.mem_of_mem_take h)
theorem free_but {p b : Addr} {H H' : Hp} (e : But p H H') (n : b ≠ p) (h : H' b = none) : H b = none := by
  cases z : H b with
  | none => rfl
  | some o =>
    rw [e _ _ z n] at h
    cases h
theorem num_at2 {ns : List Nat} {r : Int} (h0 : 0 ≤ r) (h1 : r < ns.length) (h6 : ∀ n ∈ ns, n ≤ 2) : ∃ n : Nat, n ≤ 2 ∧ atI (ns.map fun n => V.int (n : Nat)) r = some (.int (n : Nat)) := by
  have hlt : r.toNat < ns.length := by omega
  refine ⟨ns[r.toNat], h6 _ (List.getElem_mem hlt), ?_⟩
  have e2 : (ns.map fun n => V.int (n : Nat))[r.toNat]? = some (V.int (ns[r.toNat] : Nat)) := by
    rw [List.getElem?_map, List.getElem?_eq_getElem hlt]
    rfl
  have h := atI_nat e2
  rw [Int.toNat_of_nonneg h0] at h
  exact h
abbrev s_deed : Stmt := topS 42
abbrev N_deed : List Str := ["_law_pen_here", "_law_pairs_here", "_law_way", "_law_at", "_law_near", "_law_pair", "_law_some", "_law_rank", "_law_name", "_law_k"]
theorem sc_deed : FnScope N_deed ["_law_pen_here", "_law_pairs_here"] (defScope s_deed) := ⟨rfl, rfl, rfl, by decide +kernel, rfl, by decide +kernel, by decide +kernel⟩
section
variable {P : Program} {w : World} {K : Fg} {mg : Str → Option Value} {base : Heap} {fd : Nat → FuncData}
theorem G_deed (D : DefsK K fd) (T : Txt K mg) : FnOk P w K mg base CX0 4 (ga K "_law_deed") (fd 34) ["_law_pen_here", "_law_pairs_here"] spDeed := by
  have zlen : mg "len" = none := T.bl (by decide +kernel)
  have zr : mg "range" = none := T.bl (by decide +kernel)
  have zint : mg "int" = none := T.bl (by decide +kernel)
  have zmax : mg "max" = none := T.bl (by decide +kernel)
  have gD := T.fn (x := "_law_draw") (by decide +kernel)
  have gP := T.fn (x := "_law_pick") (by decide +kernel)
  have gR := T.fn (x := "_law_pairs") (by decide +kernel)
  have FD : FnP K "_law_draw" "_law_draw" s_draw (ga K "_law_draw") (fd 24) := D 24 _ rfl
  have GD : FnOk P w K mg base CX0 1 _ (fd 24) ["_law_pen_here", "_law_many"] spDrawL := ok_draw FD T
  have bD : Binds K (fd 24) ["_law_pen_here", "_law_many"] [] := FD.bindsN fun _ _ _ _ _ _ us hl => match us, hl with | [_, _], _ => rfl
  have FP : FnP K "_law_pick" "_law_pick" s_pick (ga K "_law_pick") (fd 25) := D 25 _ rfl
  have GP : FnOk P w K mg base CX0 2 _ (fd 25) ["_law_pen_here", "_law_some"] (spPickL K) := ok_pick FP FD gD T
  have bP : Binds K (fd 25) ["_law_pen_here", "_law_some"] [] := FP.bindsN fun _ _ _ _ _ _ us hl => match us, hl with | [_, _], _ => rfl
  have FR : FnP K "_law_pairs" "_law_pairs" s_pairs (ga K "_law_pairs") (fd 26) := D 26 _ rfl
  have GR : FnOk P w K mg base CX0 3 _ (fd 26) ["_law_pen_here", "_law_most"] spPairs := ok_pairs FR FD gD FP gP T
  have bR : Binds K (fd 26) ["_law_pen_here", "_law_most"] [] := FR.bindsN fun _ _ _ _ _ _ us hl => match us, hl with | [_, _], _ => rfl
  have F : FnP K "_law_deed" "_law_deed" s_deed (ga K "_law_deed") (fd 34) := D 34 _ rfl
  refine F.ok sc_deed (fun vs H Q E h => ?_) (fun cdv A outer s H vs Q E hr h => ?_)
  · obtain ⟨pn, l, g, c, ts, ps, rfl, _⟩ := h
    rfl
  · obtain ⟨pn, l, g, c, ts, ps, rfl, hP, hc, hg, ng, prs, rw0, k⟩ := h
    refine ⟨_, PSs.nox (pss_cons (ps_set (i := 2) sc_deed.nd rfl (Or.inl rfl) (pe_call (E := E0) GD (hr.mono (by decide)) rfl gD FD.kp bD .nil pass0 (pa_cons (pv 0) (pa_cons pe_int pa_nil))))
    (pss_cons (ps_if (pt_cmpR op_lt (pv 2) pe_int (nomark _)) (pss_cons (ps_set (i := 3) sc_deed.nd rfl (Or.inl rfl) (pe_call (E := E0) GD (hr.mono (by decide)) rfl gD FD.kp bD .nil pass0 (pa_cons (pv 0) (pa_cons (pe_op op_add (pe_callB call_len (by rfl) zlen (by decide +kernel) (pa_cons (pv 1) pa_nil)) pe_int) pa_nil))))
    (pss_cons (ps_set (i := 4) sc_deed.nd rfl (Or.inl rfl) (pe_op op_catN (pe_lc (own := [("_law_pair", 5)]) (g := gName 5) (tt := tYes) (by rfl) sc_deed.nd (pi_list (pe_slice sl_listN (pv 1) (po_some (pe_callB (call_max2 rfl) (by rfl) zmax (by decide +kernel) (pa_cons pe_int (pa_cons (pe_op op_sub (pv 3) pe_int) pa_nil)))) (po_some (pe_op op_add (pv 3) pe_int)))) (blkOk_by (own := [("_law_pair", 5)]) (N := N_deed) (sc := defScope s_deed) (by decide +kernel)) (fun _ _ _ _ _ => (pg_name (i := 5) sc_deed.nd rfl (Or.inl rfl))) (fun _ _ _ _ _ => pts_nil) (fun _ _ _ _ _ => (pe_ix (ixt K) (pv 5) pe_int (fun _ _ => rfl)))) (pe_lstN (pa_cons pe_int (pa_cons (pe_op op_pow pe_int pe_int) pa_nil)))))
    (pss_one (ps_ret (pe_tupN (pa_cons pe_str (pa_cons (pv 3) (pa_cons (pe_tupN (pa_cons (pe_call (E := E0) GP (hr.mono (by decide)) rfl gP FP.kp bP .nil pass0 (pa_cons (pv 0) (pa_cons (pv 4) pa_nil))) (pa_cons (pe_call (E := E0) GP (hr.mono (by decide)) rfl gP FP.kp bP .nil pass0 (pa_cons (pv 0) (pa_cons (pe_lstN (pa_cons pe_str (pa_cons pe_str (pa_cons pe_str pa_nil)))) pa_nil))) pa_nil))) pa_nil)))))))) pss_nil)
    (pss_cons (ps_if (pt_cmpR op_eq (pv 2) pe_int (nomark _)) (pss_one (ps_ret (pe_tupN (pa_cons pe_str (pa_cons (pe_lstN pa_nil) pa_nil))))) pss_nil)
    (pss_cons (ps_set (i := 6) sc_deed.nd rfl (Or.inr rfl) (pe_lstN pa_nil))
    (pss_cons (ps_for PassesOwn.never rfl (pi_list (pe_slice sl_listN (pv 1) po_none (po_some pe_int))) (pg_tup (by rfl) (pgs_cons (pg_name (i := 7) sc_deed.nd rfl (Or.inl rfl)) (pgs_cons (pg_name (i := 8) sc_deed.nd rfl (Or.inl rfl)) pgs_nil)))
    (pss_one (ps_for PassesOwn.never rfl (pi_range1 rfl zr (pa_cons (pe_ix ix_list (pe_lstN (pa_cons pe_int (pa_cons pe_int (pa_cons pe_int (pa_cons pe_int pa_nil))))) (pe_call (E := E0) GD (hr.mono (by decide)) rfl gD FD.kp bD .nil pass0 (pa_cons (pv 0) (pa_cons pe_int pa_nil))) (fun _ _ => rfl)) pa_nil)) (pg_name (i := 9) sc_deed.nd rfl (Or.inl rfl))
    (pss_one (ps_expr (pe_bm PySem.F.plainAttrs_list PySem.F.slot_list_append PySem.F.type_list_append mt_append (pv 6) (pa_cons (pe_tupN (pa_cons (pv 7) (pa_cons (pe_call (E := E0) GP (hr.mono (by decide)) rfl gP FP.kp bP .nil pass0 (pa_cons (pv 0) (pa_cons (pe_lstN (pa_cons pe_str (pa_cons pe_str pa_nil))) pa_nil))) pa_nil))) pa_nil)))))))
    (pss_mid (ps_if (pt_cmpR op_eq (pe_call (E := E0) GD (hr.mono (by decide)) rfl gD FD.kp bD .nil pass0 (pa_cons (pv 0) (pa_cons pe_int pa_nil))) pe_int (nomark _)) (pss_one (ps_set (i := 6) sc_deed.nd rfl (Or.inr rfl) (pe_call (E := E0) GR (hr.mono (by decide)) rfl gR FR.kp bR .nil pass0 (pa_cons (pv 0) (pa_cons pe_int pa_nil))))) pss_nil)
    (pss_mid (ps_if (pt_cmpR op_eq (pe_call (E := E0) GD (hr.mono (by decide)) rfl gD FD.kp bD .nil pass0 (pa_cons (pv 0) (pa_cons pe_int pa_nil))) pe_int (nomark _)) (pss_one (ps_set (i := 6) sc_deed.nd rfl (Or.inr rfl) (pe_op op_catN (pv 6) (pe_lc (own := [("_law_k", 9)]) (g := gName 9) (tt := tYes) (by rfl) sc_deed.nd (pi_range1 rfl zr (pa_cons (pe_callTy call_int1 (by rfl) zint (by decide +kernel) (pa_cons (pe_cmpR (op_neD hr.units) (pv 6) (pe_lstN pa_nil) (nomark _)) pa_nil)) pa_nil)) (blkOk_by (own := [("_law_k", 9)]) (N := N_deed) (sc := defScope s_deed) (by decide +kernel)) (fun _ _ _ _ _ => (pg_name (i := 9) sc_deed.nd rfl (Or.inl rfl))) (fun _ _ _ _ _ => pts_nil) (fun _ _ _ _ _ => (pe_tupN (pa_cons (pe_op op_sub (pe_ix (ixt K) (pe_ix (ixl K) (pv 6) pe_int (fun _ _ => rfl)) pe_int (fun _ _ => rfl)) pe_int) (pa_cons pe_str pa_nil)))))))) pss_nil)
    (pss_one (ps_ret (pe_tupN (pa_cons (pe_call (E := E0) GP (hr.mono (by decide)) rfl gP FP.kp bP .nil pass0 (pa_cons (pv 0) (pa_cons (pe_lstN (pa_cons pe_str (pa_cons pe_str (pa_cons pe_str (pa_cons pe_str (pa_cons pe_str (pa_cons pe_str (pa_cons pe_str pa_nil)))))))) pa_nil))) (pa_cons (pv 6) pa_nil)))))))))))), ?_⟩
    have ll : ts.length = ps.length := Paired.length prs
    have lm : ps.length ≤ 200 := rw0.few
    refine ⟨_, rfl, pn, l, 10, c, rfl, by decide, by decide, hP, by omega, fun r H1 r0 r1 P1 B1 => ?_⟩
    refine ⟨_, rfl, _, _, rfl, rfl, _, rfl, ite2 (fun hw => ?_) (fun hw => ?_)⟩
    · have hg1 := B1 _ _ hg ng
      refine ⟨_, rfl, _, rfl, .ref g, ts.length, rfl, .inl ⟨ts, SqL.of hg1, rfl⟩, _, _, rfl, rfl, pn, l, (ts.length : Int) + 1, c + 1, rfl, by omega, by omega, P1, by omega, fun r2 H2 r20 r21 P2 B2 => ?_⟩
      obtain ⟨i, rfl⟩ : ∃ i : Nat, r2 = (i : Nat) := ⟨r2.toNat, by omega⟩
      have B02 := B1.trans B2
      have hg2 := B02 _ _ hg ng
      have prs2 : Prs H2 ts ps := prs.keep fun t xs z => B02 _ _ z (ne_pen hP z fun _ y => nomatch y)
      refine ⟨_, rfl, _, rfl, _, _, rfl, rfl, _, _, rfl, _, rfl, _, rfl, _, _, rfl, rfl, _, rfl, g, ts, rfl, SqL.of hg2, fun q3 H3 f3 s3 g3 => ?_⟩
      have both : ∃ cs : List V, H3 q3 = some (.lst cs) ∧ cs.length ≤ 200 ∧ ∀ x ∈ cs, x ∈ ts := ⟨_, g3, Nat.le_trans (cutV_length ts _ _) (by omega), fun x hx => cut_mem hx⟩
      obtain ⟨cs, gc, lc, mc⟩ := both
      refine ⟨q3, rfl, ⟨_, SqL.of gc⟩, fun D1 hD => lc_list (K := K) (a := q3) (xs := cs) (fun j H' => Same H3 H' ∧ ∃ rs : List Int, H' D1 = some (.lst (rs.map V.int)) ∧ rs.length = j ∧ ∀ r ∈ rs, r.natAbs ≤ 10 ^ 29 + 10 ^ 12) ⟨same_new hD, [], upd_same, rfl, fun _ h => nomatch h⟩ (fun j H' _ ⟨s, _⟩ => SqL.of (s _ _ gc)) ?_ ?_⟩
      · rintro j x H4 hx ⟨s4, rs, gD, lr, hrs⟩
        have hj : j < cs.length := (List.getElem?_eq_some_iff.mp hx).1
        obtain ⟨m, hm⟩ := List.getElem?_of_mem (mc x (List.mem_of_getElem? hx))
        obtain ⟨t, q, rfl, hq, gt⟩ := prs_at prs2 hm
        refine ⟨rfl, _, rfl, t, _, 0, .int q.1, rfl, rfl, SqT.of (s4 _ _ (s3 _ _ gt)), rfl, _, gD, ?_, same_upd s4 hD, rs ++ [q.1], ?_, ?_, ?_⟩
        · rw [List.length_map]
          exact Nat.lt_of_lt_of_le (show rs.length < 1000 by omega) (by decide)
        · rw [upd_same, List.map_append]
          rfl
        · rw [List.length_append, lr]
          rfl
        · intro r hr'
          rcases List.mem_append.mp hr' with z | z
          · exact hrs r z
          · have e : r = q.1 := by simpa using z
            rw [e]
            exact (rw0.gs q (List.mem_of_getElem? hq)).1
      · rintro H4 ⟨s4, rs, gD, lr, hrs⟩
        refine ⟨_, _, rfl, rfl, ⟨by decide, by decide, by decide⟩, sz1000 (by show 2 ≤ 1000; decide), fun q5 H5 f5 m5 s5 g5 => ?_⟩
        have lrs : (rs.map V.int).length ≤ 200 := by
          rw [List.length_map]
          omega
        refine ⟨D1, q5, _, _, rfl, rfl, s5 _ _ gD, g5, sz1000 (by show (rs.map V.int).length + 2 ≤ 1000; omega), fun q6 H6 f6 m6 s6 g6 => ?_⟩
        have s26 := s3.trans (s4.trans (s5.trans s6))
        have P6 := P2.same s26
        have n6 : q6 ≠ pn := ((P2.same (s3.trans (s4.trans s5))).new f6).1
        refine ⟨_, rfl, _, rfl, _, rfl, pn, l, q6, _, c + 2, rfl, SqL.of g6, n6, ?_, ?_, P6, by omega, fun v H7 hv P7 B7 => ?_⟩
        · simp only [List.length_append, List.length_map, List.length_cons, List.length_nil]
          omega
        · simp only [List.length_append, List.length_map, List.length_cons, List.length_nil]
          omega
        obtain ⟨rr, rfl, hrr⟩ : ∃ r : Int, v = .int r ∧ r.natAbs ≤ 10 ^ 29 + 10 ^ 12 := by
          rcases List.mem_append.mp hv with z | z
          · obtain ⟨r, hr', rfl⟩ := List.mem_map.mp z
            exact ⟨r, rfl, hrs r hr'⟩
          · simp only [List.mem_cons, List.not_mem_nil, or_false] at z
            rcases z with rfl | rfl
            · exact ⟨_, rfl, by decide⟩
            · exact ⟨_, rfl, by decide⟩
        refine ⟨_, rfl, sz1000 (by show 3 ≤ 1000; decide), fun q8 H8 f8 m8 s8 g8 => ?_⟩
        refine ⟨pn, l, q8, _, c + 3, rfl, SqL.of g8, (P7.new f8).1, (by show 0 < 3; decide), (by show 3 < 1000; decide), P7.same s8, by omega, fun v H9 hv P9 B9 => ?_⟩
        obtain ⟨z, rfl, tz⟩ : ∃ z : Str, v = .str z ∧ textOk z = true ∧ z.length ≤ 8 := by
          simp only [List.mem_cons, List.not_mem_nil, or_false] at hv
          rcases hv with rfl | rfl | rfl <;> exact ⟨_, rfl, by decide +kernel, by decide +kernel⟩
        refine ⟨sz1000 (by show 2 ≤ 1000; decide), fun tq H10 f10 s10 g10 => ⟨sz1000 (by show 3 ≤ 1000; decide), fun dd H11 f11 s11 g11 => ?_⟩⟩
        exact k (.put i (rr, z)) dd H11 ⟨hrr, tz⟩ ⟨tq, g11, s11 _ _ g10⟩ ((P9.same (s10.trans s11)).mono (by omega)) (((((B02.trans (But.of s26)).trans B7).trans (But.of s8)).trans B9).trans (But.of (s10.trans s11)))
    · refine ⟨_, rfl, rfl, _, rfl, ite2 (fun h3 => ?_) (fun h3 => ?_)⟩
      · refine ⟨sz1000 (by show 0 ≤ 1000; decide), fun e H2 f2 m2 s2 g2 => ⟨sz1000 (by show 2 ≤ 1000; decide), fun dd H3 f3 s3 g3 => ?_⟩⟩
        exact k .settle dd H3 trivial ⟨e, g3⟩ ((P1.same (s2.trans s3)).mono (by omega)) (B1.trans (But.of (s2.trans s3)))
      refine ⟨sz1000 (by show 0 ≤ 1000; decide), fun S H2 f2 m2 s2 g2 => ?_⟩
      obtain ⟨nsp, nsl⟩ := P1.new f2
      have B02 := B1.trans (But.of s2)
      have hg2 := B02 _ _ hg ng
      have fS : H S = none := by
        cases e : H S with
        | none => rfl
        | some o =>
          rw [B1 S o e nsp] at f2
          cases f2
      refine ⟨_, rfl, _, rfl, g, ts, rfl, SqL.of hg2, fun q3 H3 f3 s3 g3 => ?_⟩
      rw [show (14 : Int) = ((14 : Nat) : Int) from rfl, cutTake] at g3
      obtain ⟨n3p, _⟩ := (P1.same s2).new f3
      have n3S : q3 ≠ S := fun z => by rw [z, g2] at f3; cases f3
      have B03 := B02.trans (But.of s3)
      have prs3 : Prs H3 (ts.take 14) (ps.take 14) := Prs.keep (fun t xs z => B03 _ _ z (ne_pen hP z fun _ y => nomatch y)) (show Prs H (ts.take 14) (ps.take 14) from paired_tk 14 prs)
      have tupS : ∀ {G : Hp} {us : List V}, G S = some (.lst us) → ∀ (b : Addr) (xs : List V) (o : HO), G b = some (.tup xs) → (upd G S o) b = some (.tup xs) := fun {G us} gS b xs o e => by
        rw [upd_ne (fun h => by rw [h, gS] at e; cases e)]
        exact e
      refine ⟨q3, rfl, ⟨_, SqL.of g3⟩, for_list (K := K) (a := q3) (xs := ts.take 14) (fun i σ H' => ∃ (v7 v8 v9 : Option V) (us : List V) (qs : List (Int × Str)), σ = [some (.ref pn), some (.ref g), some (.int r), none, none, none, some (.ref S), v7, v8, v9] ∧ PenL H' pn l (c + 1 + 3 * i) ∧ But pn H H' ∧ H' q3 = some (.lst (ts.take 14)) ∧ Prs H' (ts.take 14) (ps.take 14) ∧ H' S = some (.lst us) ∧ Prs H' us qs ∧ qs.length ≤ 2 * i ∧ ∀ q ∈ qs, Gs q)
        ⟨none, none, none, [], [], rfl, P1.same (s2.trans s3), B03, g3, prs3, s3 _ _ g2, .nil, Nat.le_refl _, fun _ h => nomatch h⟩ (fun i σ H' _ ⟨_, _, _, _, _, _, _, _, b, _⟩ => SqL.of b) ?_ ?_⟩
      · rintro i x σ H4 hx ⟨v7, v8, v9, us, qs, rfl, P4, B4, gq4, prs4, gS4, pus, lq, gsq⟩
        obtain ⟨t, q, rfl, eq, ht⟩ := prs_at prs4 hx
        have hi : i < 14 := by
          have := (List.getElem?_eq_some_iff.mp eq).1
          rw [List.length_take] at this
          omega
        refine ⟨t, _, rfl, SqT.of ht, rfl, ?_⟩
        refine ⟨_, _, rfl, _, _, rfl, rfl, ?_⟩
        refine ⟨sz1000 (by show 4 ≤ 1000; decide), fun q5 H5 f5 m5 s5 g5 => ?_⟩
        refine ⟨_, rfl, pn, l, 4, c + 1 + 3 * i, rfl, by decide, by decide, P4.same s5, by omega, fun d H6 d0 d4 P6 B6 => ?_⟩
        obtain ⟨m, hm2, hix⟩ := num_at2 (ns := [0, 0, 1, 2]) d0 d4 (by decide)
        refine ⟨q5, _, d, .int (m : Nat), rfl, rfl, SqL.of (B6 _ _ g5 (P4.new f5).1), hix, ?_⟩
        have B46 : But pn H4 H6 := (But.of s5).trans B6
        have tup6 : ∀ b xs, H4 b = some (.tup xs) → H6 b = some (.tup xs) := fun b xs z => B46 _ _ z (ne_pen P4 z fun _ y => nomatch y)
        clear g5 hix
        refine ⟨(m : Nat), rfl, by omega, by omega, ?_⟩
        refine for_range (lo := 0) (n := ((m : Nat) : Int).toNat) (fun j σ H' => ∃ (v9 : Option V) (us : List V) (qs : List (Int × Str)), σ = [some (.ref pn), some (.ref g), some (.int r), none, none, none, some (.ref S), some (.int q.1), some (.str q.2), v9] ∧ PenL H' pn l (c + 1 + 3 * i + 1 + j) ∧ But pn H H' ∧ H' q3 = some (.lst (ts.take 14)) ∧ Prs H' (ts.take 14) (ps.take 14) ∧ H' S = some (.lst us) ∧ Prs H' us qs ∧ qs.length ≤ 2 * i + j ∧ ∀ q ∈ qs, Gs q)
          ⟨v9, us, qs, rfl, P6, B4.trans B46, B46 _ _ gq4 n3p, prs4.keep tup6, B46 _ _ gS4 nsp, pus.keep tup6, lq, gsq⟩ ?_ ?_
        · rintro j σ G0 hj ⟨v9, us, qs, rfl, P0, B0, gq0, prs0, gS0, pus0, lq0, gsq0⟩
          rw [Int.toNat_natCast] at hj
          have lus : us.length = qs.length := Paired.length pus0
          refine ⟨_, rfl, .inl ⟨rfl, _, SqL.of gS0⟩, _, rfl, _, rfl, sz1000 (by show 2 ≤ 1000; decide), fun q7 G1 f7 m7 s7 g7 => ?_⟩
          refine ⟨pn, l, q7, _, c + 1 + 3 * i + 1 + j, rfl, SqL.of g7, (P0.new f7).1, (by show 0 < 2; decide), (by show 2 < 1000; decide), P0.same s7, by omega, fun v G2 hv P8 B8 => ?_⟩
          obtain ⟨z, rfl, tz⟩ : ∃ z : Str, v = .str z ∧ textOk z = true ∧ z.length ≤ 8 := by
            simp only [List.mem_cons, List.not_mem_nil, or_false] at hv
            rcases hv with rfl | rfl <;> exact ⟨_, rfl, by decide +kernel, by decide +kernel⟩
          refine ⟨sz1000 (by show 2 ≤ 1000; decide), fun t9 G3 f9 s9 g9 => ?_⟩
          have B03' : But pn G0 G3 := ((But.of s7).trans B8).trans (But.of s9)
          have gS3 := B03' _ _ gS0 nsp
          have tup3 : ∀ b xs, G0 b = some (.tup xs) → (upd G3 S (.lst (us ++ [.ref t9]))) b = some (.tup xs) := fun b xs z => tupS gS3 _ _ _ (B03' _ _ z (ne_pen P0 z fun _ y => nomatch y))
          refine ⟨S, _, _, rfl, rfl, gS3, Nat.lt_of_lt_of_le (show us.length < 1000 by omega) (by decide), _, us ++ [.ref t9], qs ++ [(q.1, z)], rfl, ?_, ?_, ?_, prs0.keep tup3, upd_same, ?_, ?_, ?_⟩
          · exact ((P8.same s9).upd nsp nsl).mono (by omega)
          · intro b u hb n
            rw [upd_ne (ne_of_none hb fS)]
            exact B03' _ _ (B0 _ _ hb n) n
          · rw [upd_ne n3S]
            exact B03' _ _ gq0 n3p
          · exact Prs.snoc (pus0.keep tup3) (tupS gS3 _ _ _ g9)
          · rw [List.length_append]
            show qs.length + 1 ≤ _
            omega
          · intro x hx
            rcases List.mem_append.mp hx with y | y
            · exact gsq0 x y
            · have e : x = (q.1, z) := by simpa using y
              rw [e]
              exact ⟨(rw0.gs q (List.mem_of_mem_take (List.mem_of_getElem? eq))).1, tz⟩
        · rintro σ G0 ⟨v9, us, qs, rfl, P0, B0, gq0, prs0, gS0, pus0, lq0, gsq0⟩
          rw [Int.toNat_natCast] at lq0 P0
          exact ⟨_, _, _, us, qs, rfl, P0.mono (by omega), B0, gq0, prs0, gS0, pus0, by omega, gsq0⟩
      · rintro σ H4 ⟨v7, v8, v9, us, qs, rfl, P4, B4, gq4, prs4, gS4, pus, lq, gsq⟩
        have l14 : (ts.take 14).length ≤ 14 := by rw [List.length_take]; omega
        have tup4 : ∀ {G : Hp}, But pn H4 G → ∀ b xs, H4 b = some (.tup xs) → G b = some (.tup xs) := fun B b xs z => B _ _ z (ne_pen P4 z fun _ y => nomatch y)
        refine ⟨fun σ' H' => ∃ (v7 v8 v9 : Option V) (S' : Addr) (us : List V) (qs : List (Int × Str)), σ' = [some (.ref pn), some (.ref g), some (.int r), none, none, none, some (.ref S'), v7, v8, v9] ∧ PenL H' pn l (c + 400) ∧ But pn H H' ∧ S' ≠ pn ∧ H S' = none ∧ H' S' = some (.lst us) ∧ Prs H' us qs ∧ qs.length ≤ 28 ∧ ∀ q ∈ qs, Gs q, ?_, ?_⟩
        · refine ⟨_, rfl, pn, l, 2, c + 1 + 3 * (ts.take 14).length, rfl, by decide, by decide, P4, by omega, fun d H5 d0 d2 P5 B5 => ?_⟩
          refine ⟨rfl, _, rfl, ite2 (fun hz => ?_) (fun hz => ?_)⟩
          · refine ⟨_, rfl, pn, l, 6, c + 1 + 3 * (ts.take 14).length + 1, rfl, by decide, P5, by omega, fun f H6 us6 qs6 P6 B6 f6 nf gf pr6 l6 up6 gs6 => ?_⟩
            exact ⟨_, _, _, f, us6, qs6, rfl, P6.mono (by omega), (B4.trans B5).trans B6, nf, free_but (B4.trans B5) nf f6, gf, pr6, by omega, gs6⟩
          · exact ⟨_, _, _, S, us, qs, rfl, P5.mono (by omega), B4.trans B5, nsp, fS, B5 _ _ gS4 nsp, pus.keep (tup4 B5), by omega, gsq⟩
        · rintro σ G ⟨v7, v8, v9, S', us, qs, rfl, P5, B5, nS, fS', gS, pus, lq, gsq⟩
          have lus : us.length = qs.length := Paired.length pus
          have tup5 : ∀ {G' : Hp}, But pn G G' → ∀ b xs, G b = some (.tup xs) → G' b = some (.tup xs) := fun B b xs z => B _ _ z (ne_pen P5 z fun _ y => nomatch y)
          refine ⟨fun σ' H' => ∃ (v7 v8 v9 : Option V) (S' : Addr) (us : List V) (qs : List (Int × Str)), σ' = [some (.ref pn), some (.ref g), some (.int r), none, none, none, some (.ref S'), v7, v8, v9] ∧ PenL H' pn l (c + 401) ∧ But pn H H' ∧ S' ≠ pn ∧ H S' = none ∧ H' S' = some (.lst us) ∧ Prs H' us qs ∧ qs.length ≤ 29 ∧ (∀ q ∈ qs, Gd q) ∧ (Up qs qs.length → ∀ q ∈ qs, Gs q), ?_, ?_⟩
          · refine ⟨_, rfl, pn, l, 8, c + 400, rfl, by decide, by decide, P5, by omega, fun d H6 d0 d8 P6 B6 => ?_⟩
            refine ⟨rfl, _, rfl, ite2 (fun hz => ?_) (fun hz => ?_)⟩
            · have gS6 := B6 _ _ gS nS
              have pus6 := pus.keep (tup5 B6)
              refine ⟨_, rfl, _, rfl, sz1000 (by show 0 ≤ 1000; decide), fun q2 H7 f7 m7 s7 g7 => ⟨.list (qs.map pd), .list [], .lst (SqL.of (s7 _ _ gS6)) (dp_prs (prs_same s7 pus6)), .lst (SqL.of g7) .nil, shaped_prs fun q hq => (gsq q hq).2.1, shaped_ints [], ?_⟩⟩
              have s67 := s7
              obtain ⟨n, en, n0, n1⟩ : ∃ n : Nat, (if (!PyData.eqv (.list (qs.map pd)) (.list [])) = true then (1 : Int) else 0) = (n : Int) ∧ (qs = [] → n = 0) ∧ (∀ q0 rest, qs = q0 :: rest → n = 1) := by
                cases qs with
                | nil => exact ⟨0, rfl, fun _ => rfl, fun _ _ z => nomatch z⟩
                | cons q0 rest => exact ⟨1, by rw [eqv_nil]; rfl, (fun z => nomatch z), fun _ _ _ => rfl⟩
              have n2 : n ≤ 1 := by
                cases qs with
                | nil => rw [n0 rfl]; exact Nat.zero_le _
                | cons q0 rest => rw [n1 _ _ rfl]; exact Nat.le_refl _
              refine .inr ⟨_, rfl, (n : Int), congrArg (fun z : Int => [V.int z]) en, by omega, by omega, fun D hD => ?_⟩
              have gS7 := s7 _ _ gS6
              have pus7 := prs_same s7 pus6
              refine lc_range (lo := 0) (n := ((n : Int)).toNat) (fun i H' => Same H7 H' ∧ ∃ xs : List V, H' D = some (.lst xs) ∧ Prs H' xs (List.replicate i ((qs.headD (0, "")).1 - 1, ""))) ⟨same_new hD, [], upd_same, .nil⟩ ?_ ?_
              · rintro i H8 hi ⟨s8, xs, gD, px⟩
                have hi0 : i = 0 := by omega
                subst hi0
                obtain ⟨q0, rest, rfl⟩ : ∃ q0 rest, qs = q0 :: rest := by
                  cases qs with
                  | nil =>
                    rw [n0 rfl] at hi
                    exact absurd hi (by decide)
                  | cons q0 rest => exact ⟨q0, rest, rfl⟩
                have lx : xs.length = 0 := Paired.length px
                obtain ⟨t0, e0, ht0⟩ : ∃ t0, us[0]? = some (.ref t0) ∧ H7 t0 = some (.tup [.int q0.1, .str q0.2]) := by
                  cases pus7 with
                  | cons h r =>
                    obtain ⟨t0, rfl, h2⟩ := h
                    exact ⟨t0, rfl, h2⟩
                have s78 := s8
                have x0 : xs = [] := List.eq_nil_of_length_eq_zero lx
                subst x0
                refine ⟨rfl, _, rfl, S', us, 0, .ref t0, rfl, rfl, SqL.of (s8 _ _ gS7), atI_gen (by decide) e0, t0, _, 0, .int q0.1, rfl, rfl, SqT.of (s8 _ _ ht0), rfl, _, _, rfl, rfl, sz1000 (by show 2 ≤ 1000; decide), fun tq H9 f9 s9 g9 => ?_⟩
                refine ⟨[], s9 _ _ gD, by decide, same_upd (s8.trans s9) hD, _, upd_same, .cons ⟨tq, rfl, ?_⟩ .nil⟩
                rw [upd_ne (fun z => by rw [z, gD] at f9; cases f9)]
                exact g9
              · rintro H8 ⟨s8, xs, gD, px⟩
                rw [Int.toNat_natCast] at px
                refine ⟨S', D, us, xs, rfl, rfl, s8 _ _ gS7, gD, ?_, fun q9 H9 f9 m9 s9 g9 => ?_⟩
                · have lx : xs.length = n := by rw [Paired.length px, List.length_replicate]
                  exact sz1000 (show us.length + xs.length ≤ 1000 by omega)
                have s69 := s7.trans (s8.trans s9)
                refine ⟨_, _, _, q9, us ++ xs, qs ++ List.replicate n ((qs.headD (0, "")).1 - 1, ("" : Str)), rfl, (P6.same s69).mono (by omega), (B5.trans B6).trans (But.of s69), ((P6.same (s7.trans s8)).new f9).1, free_but (B5.trans B6) ((P6.same (s7.trans s8)).new f9).1 ((s7.trans s8).free f9), g9, paired_ap (prs_same s9 px) (prs_same (s8.trans s9) pus7), by rw [List.length_append, List.length_replicate]; omega, fun q hq => ?_, fun up => ?_⟩
                · rcases List.mem_append.mp hq with y | y
                  · exact (gsq q y).gd
                  · obtain ⟨hn, rfl⟩ := List.mem_replicate.mp y
                    cases qs with
                    | nil => exact absurd (n0 rfl) hn
                    | cons q0 rest =>
                      have := (gsq q0 List.mem_cons_self).1
                      refine ⟨?_, show textOk "" = true by decide +kernel, show ("" : Str).length ≤ 8 by decide +kernel⟩
                      show (q0.1 - 1).natAbs ≤ _
                      omega
                · cases qs with
                  | nil =>
                    rw [n0 rfl]
                    exact fun _ z => nomatch z
                  | cons q0 rest =>
                    rw [n1 _ _ rfl] at up
                    have := (List.pairwise_cons.mp (up_asc up (Nat.le_succ _))).1 (q0.1 - 1, "") (List.mem_append_right _ List.mem_cons_self)
                    exact absurd this (by show ¬ q0.1 ≤ q0.1 - 1; omega)
            · exact ⟨_, _, _, S', us, qs, rfl, P6.mono (by omega), B5.trans B6, nS, fS', B6 _ _ gS nS, pus.keep (tup5 B6), by omega, fun q hq => (gsq q hq).gd, fun _ => gsq⟩
          · rintro σ G ⟨v7, v8, v9, S', us, qs, rfl, P5, B5, nS, fS', gS, pus, lq, gsq, gsu⟩
            refine ⟨_, rfl, sz1000 (by show 7 ≤ 1000; decide), fun q8 H8 f8 m8 s8 g8 => ?_⟩
            refine ⟨pn, l, q8, _, c + 401, rfl, SqL.of g8, (P5.new f8).1, (by show 0 < 7; decide), (by show 7 < 1000; decide), P5.same s8, by omega, fun v H9 hv P9 B9 => ?_⟩
            obtain ⟨z, rfl, sz⟩ : ∃ z : Str, v = .str z ∧ z ∈ signs := by
              simp only [List.mem_cons, List.not_mem_nil, or_false] at hv
              rcases hv with rfl | rfl | rfl | rfl | rfl | rfl | rfl <;> exact ⟨_, rfl, by decide +kernel⟩
            have B59 : But pn G H9 := (But.of s8).trans B9
            refine ⟨_, rfl, sz1000 (by show 2 ≤ 1000; decide), fun dd H10 f10 s10 g10 => ?_⟩
            have pus9 : Prs H10 us qs := pus.keep fun b xs z => s10 _ _ (B59 _ _ z (ne_pen P5 z fun _ y => nomatch y))
            exact k (.op z qs) dd H10 ⟨sz, gsq, gsu, lq⟩ ⟨S', us, g10, fS', s10 _ _ (B59 _ _ gS nS), pus9⟩ ((P9.same s10).mono (by omega)) ((B5.trans B59).trans (But.of s10))
end
end K10
namespace K10
open PySem PySem.Spec PyProof.Rows L2 He Tw
/-- what a deed is to be done with, drawn -/
def spVof (K : Fg) : Sp := fun vs H Q _ => ∃ (N : Addr → Prop) (pn l dd : Addr) (c : Nat) (d : Deed), vs = [.ref pn, .ref dd] ∧ (∀ b, N b → b ≠ pn) ∧ PenL H pn l c ∧ c ≤ 500000 ∧ DeedOk d ∧ DeedAt N H dd d ∧
  ∀ (v : Addr) (H' : Hp), VlC K H' v d → H v = none → PenL H' pn l (c + 100) → But pn H H' → Q (.ref v) H'
abbrev s_vof : Stmt := topS 43
abbrev N_vof : List Str := ["_law_pen_here", "_law_deed_here", "_law_values_here"]
theorem sc_vof : FnScope N_vof ["_law_pen_here", "_law_deed_here"] (defScope s_vof) := ⟨rfl, rfl, rfl, by decide +kernel, rfl, by decide +kernel, by decide +kernel⟩
section
variable {P : Program} {w : World} {K : Fg} {mg : Str → Option Value} {base : Heap} {fd : Nat → FuncData}
theorem G_vof (D : DefsK K fd) (T : Txt K mg) : FnOk P w K mg base CX0 8 (ga K "_law_values_of") (fd 35) ["_law_pen_here", "_law_deed_here"] (spVof K) := by
  have ztup : mg "tuple" = none := T.bl (by decide +kernel)
  have gD := T.fn (x := "_law_draw") (by decide +kernel)
  have gV := T.fn (x := "_law_values") (by decide +kernel)
  have gF := T.fn (x := "_law_fall") (by decide +kernel)
  have gI : mg "Item" = some (.ref (ga K "Item")) := T.cl (by decide +kernel)
  have gR : mg "Row" = some (.ref (ga K "Row")) := T.cl (by decide +kernel)
  have FD : FnP K "_law_draw" "_law_draw" s_draw (ga K "_law_draw") (fd 24) := D 24 _ rfl
  have GD : FnOk P w K mg base CX0 1 _ (fd 24) ["_law_pen_here", "_law_many"] spDrawL := ok_draw FD T
  have bD : Binds K (fd 24) ["_law_pen_here", "_law_many"] [] := FD.bindsN fun _ _ _ _ _ _ us hl => match us, hl with | [_, _], _ => rfl
  have FV : FnP K "_law_values" "_law_values" s_values (ga K "_law_values") (fd 27) := D 27 _ rfl
  obtain ⟨d2, I⟩ := itm (P := P) (w := w) (base := base) D T
  have GV : FnOk P w K mg base CX0 5 _ (fd 27) ["_law_pen_here", "_law_pairs_here"] (spValues K) := ok_values FV FD gD I T
  have bV : Binds K (fd 27) ["_law_pen_here", "_law_pairs_here"] [] := FV.bindsN fun _ _ _ _ _ _ us hl => match us, hl with | [_, _], _ => rfl
  have GF : FnOk P w K mg base CX0 1 _ (fd 31) ["_law_pairs_here"] spFall := G_fall D T
  have FF : FnP K "_law_fall" "_law_fall" s_fall (ga K "_law_fall") (fd 31) := D 31 _ rfl
  have bF : Binds K (fd 31) ["_law_pairs_here"] [] := FF.bindsN fun _ _ _ _ _ _ us hl => match us, hl with | [_], _ => rfl
  have Gr : FnOk P w K mg base (L2.CX P w) 6 (ma K (ga K "Row") "__init__") (fd 6) ["self", "items"] (spRow K) := G_row D T
  have F : FnP K "_law_values_of" "_law_values_of" s_vof (ga K "_law_values_of") (fd 35) := D 35 _ rfl
  refine F.ok sc_vof (fun vs H Q E h => ?_) (fun cdv A outer s H vs Q E hr h => ?_)
  · obtain ⟨N, pn, l, dd, c, d, rfl, _⟩ := h
    rfl
  · obtain ⟨N, pn, l, dd, c, d, rfl, hN, hP, hc, ok, hd, k⟩ := h
    refine ⟨_, PSs.nox (pss_cons (ps_if (pt_cmpR op_in_seq (pe_ix (ixt K) (pv 1) pe_int (fun _ _ => rfl)) (pe_tupN (pa_cons pe_str (pa_cons pe_str pa_nil))) rfl) (pss_one (ps_ret (pe_lstN pa_nil))) pss_nil)
    (pss_cons (ps_set (i := 2) sc_vof.nd rfl (Or.inl rfl) (pe_call (E := E0) GV (hr.mono (by decide)) rfl gV FV.kp bV .nil pass0 (pa_cons (pv 0) (pa_cons (pe_ix (ixt K) (pv 1) pe_int (fun _ _ => rfl)) pa_nil))))
    (pss_mid (ps_if (PW.pt (pw_and (pt_cmpR op_isN (pe_call (E := E0) GF (hr.mono (by decide)) rfl gF FF.kp bF .nil pass0 (pa_cons (pe_ix (ixt K) (pv 1) pe_int (fun _ _ => rfl)) pa_nil)) pe_non (nomark _)) (pw_and1 (pt_cmpR op_eq (pe_call (E := E0) GD (hr.mono (by decide)) rfl gD FD.kp bD .nil pass0 (pa_cons (pv 0) (pa_cons pe_int pa_nil))) pe_int (nomark _))))) (pss_one (ps_ret (pe_make (E := E0) T.mkR Gr (hr.mono (by decide)) rfl gR (bRow D) .nil passL (pa_cons (pv 2) pa_nil)))) pss_nil)
    (pss_one (ps_ret (pe_ix (ixl K) (pe_lstN (pa_cons (pv 2) (pa_cons (pe_callTy (call_tuple_ofK K) (by rfl) ztup (by decide +kernel) (pa_cons (pv 2) pa_nil)) pa_nil))) (pe_call (E := E0) GD (hr.mono (by decide)) rfl gD FD.kp bD .nil pass0 (pa_cons (pv 0) (pa_cons pe_int pa_nil))) (fun _ _ => rfl))))))), ?_⟩
    cases d with
    | put i q =>
      obtain ⟨tq, hdd, hq⟩ := hd
      refine ⟨_, rfl, dd, _, 0, .str "put", rfl, rfl, SqT.of hdd, rfl, sz1000 (by show 2 ≤ 1000; decide), fun tp H1 f1 s1 g1 => ?_⟩
      refine ⟨tp, _, rfl, .inr (SqT.of g1), rfl, rfl, _, rfl, iteTe (by decide +kernel) ⟨sz1000 (by show 0 ≤ 1000; decide), fun v H2 f2 m2 s2 g2 => ?_⟩⟩
      exact k v H2 trivial (s1.free f2) ((hP.same (s1.trans s2)).mono (by omega)) (But.of (s1.trans s2))
    | settle =>
      obtain ⟨e, hdd⟩ := hd
      refine ⟨_, rfl, dd, _, 0, .str "settle", rfl, rfl, SqT.of hdd, rfl, sz1000 (by show 2 ≤ 1000; decide), fun tp H1 f1 s1 g1 => ?_⟩
      refine ⟨tp, _, rfl, .inr (SqT.of g1), rfl, rfl, _, rfl, iteTe (by decide +kernel) ⟨sz1000 (by show 0 ≤ 1000; decide), fun v H2 f2 m2 s2 g2 => ?_⟩⟩
      exact k v H2 trivial (s1.free f2) ((hP.same (s1.trans s2)).mono (by omega)) (But.of (s1.trans s2))
    | op s qs =>
      obtain ⟨f, us, hdd, nf, hf, pq⟩ := hd
      have nf := hN f nf
      obtain ⟨hs, gd, gs, lq⟩ := ok
      refine ⟨_, rfl, dd, _, 0, .str s, rfl, rfl, SqT.of hdd, rfl, sz1000 (by show 2 ≤ 1000; decide), fun tp H1 f1 s1 g1 => ?_⟩
      have ein : inV (.str s) [.str "put", .str "settle"] = false := by
        simp only [signs, List.mem_cons, List.not_mem_nil, or_false] at hs
        rcases hs with rfl | rfl | rfl | rfl | rfl <;> decide +kernel
      refine ⟨tp, _, rfl, .inr (SqT.of g1), rfl, rfl, _, rfl, iteFe ein ?_⟩
      have pq1 := prs_same s1 pq
      refine ⟨_, rfl, _, rfl, dd, _, 1, .ref f, rfl, rfl, SqT.of (s1 _ _ hdd), rfl, pn, l, f, us, qs, c, rfl, hP.same s1, by omega, s1 _ _ hf, nf, pq1, by omega, gd, fun v H2 xs P2 B2 f2 nv gv vv => ?_⟩
      have B02 : But pn H H2 := (But.of s1).trans B2
      have tup2 : ∀ b ys, H b = some (.tup ys) → H2 b = some (.tup ys) := fun b ys z => B02 _ _ z (ne_pen hP z fun _ y => nomatch y)
      have pq2 := pq.keep tup2
      have hf2 := B02 _ _ hf nf
      have fv : H v = none := s1.free f2
      refine ⟨fun σ' H' => σ' = [some (.ref pn), some (.ref dd), some (.ref v)] ∧ PenL H' pn l (c + 50) ∧ But pn H H' ∧ H' v = some (.lst xs) ∧ Vals' K H' xs qs, ?_, ?_⟩
      · have keep : ∀ {G : Hp}, But pn H2 G → Vals' K G xs qs := fun {G} B => vv.keep fun a dx i z e => B _ _ e (ne_pen P2 e fun _ y => nomatch y)
        refine ⟨_, rfl, dd, _, 1, .ref f, rfl, rfl, SqT.of (tup2 _ _ hdd), rfl, f, us, qs, rfl, hf2, pq2, by omega, fun up H3 s3 => ?_, fun j fj H3 s3 => ?_⟩
        · refine ⟨rfl, _, rfl, iteTe (decide_eq_true rfl) ?_⟩
          refine ⟨_, rfl, pn, l, 2, c + qs.length, rfl, by decide, by decide, P2.same s3, by omega, fun r H4 r0 r2 P4 B4 => ?_⟩
          have B24 : But pn H2 H4 := (But.of s3).trans B4
          have gv4 := B24 _ _ gv nv
          refine ⟨rfl, _, rfl, ite2 (fun hz => ?_) (fun hz => ?_)⟩
          · refine ⟨_, rfl, fun x dx h1 h2 h3 => row_to h1 h2 h3 (vals_src (.inl (SqL.of gv4)) (keep B24) (by omega)) up (by omega) fun H5 ys s5 ra its => ⟨rfl, ?_⟩⟩
            exact k x H5 (.inr ⟨ys, ra, its⟩) (by
              cases e : H x with
              | none => rfl
              | some o =>
                by_cases n : x = pn
                · obtain ⟨z1, z2, z3, z4, _⟩ := P4
                  rw [n, z4] at h1
                  cases h1
                · rw [B24 _ _ (B02 _ _ e n) n] at h1
                  cases h1) ((P4.same s5).mono (by omega)) ((B02.trans B24).trans (But.of s5))
          · exact ⟨rfl, P4.mono (by omega), B02.trans B24, gv4, keep B24⟩
        · refine ⟨rfl, _, rfl, iteFe (decide_eq_false fun z => nomatch z) ?_⟩
          exact ⟨rfl, (P2.same s3).mono (by omega), B02.trans (But.of s3), s3 _ _ gv, keep (But.of s3)⟩
      · rintro σ H3 ⟨rfl, P3, B3, gv3, vv3⟩
        refine ⟨_, rfl, _, rfl, v, xs, rfl, .inl ⟨SqL.of gv3, fun tv htv => ?_⟩⟩
        have s4 := same_new (o := .tup xs) htv
        refine ⟨sz1000 (by show 2 ≤ 1000; decide), fun ql H5 f5 m5 s5 g5 => ?_⟩
        have s35 := s4.trans s5
        have P5 := P3.same s35
        refine ⟨_, rfl, pn, l, 2, c + 50, rfl, by decide, by decide, P5, by omega, fun r H6 r0 r2 P6 B6 => ?_⟩
        have B36 : But pn H3 H6 := (But.of s35).trans B6
        have B06 := B3.trans B36
        have keep : Vals' K H6 xs qs := vv3.keep fun a dx i z e => B36 _ _ e (ne_pen P3 e fun _ y => nomatch y)
        have nql : ql ≠ pn := ((P3.same s4).new f5).1
        have gt5 : H5 tv = some (.tup xs) := s5 _ _ upd_same
        have gt6 : H6 tv = some (.tup xs) := B6 _ _ gt5 (ne_pen P5 gt5 fun _ y => nomatch y)
        have fr : H tv = none := by
          cases e : H tv with
          | none => rfl
          | some o =>
            by_cases n : tv = pn
            · obtain ⟨z1, z2, z3, z4, _⟩ := P3
              rw [n, z4] at htv
              cases htv
            · rw [B3 _ _ e n] at htv
              cases htv
        have hr2 : r = 0 ∨ r = 1 := by omega
        rcases hr2 with rfl | rfl
        · exact ⟨ql, _, 0, .ref v, rfl, rfl, SqL.of (B6 _ _ g5 nql), rfl, k v H6 (.inl ⟨xs, .inl (B36 _ _ gv3 nv), keep⟩) fv (P6.mono (by omega)) B06⟩
        · exact ⟨ql, _, 1, .ref tv, rfl, rfl, SqL.of (B6 _ _ g5 nql), rfl, k tv H6 (.inl ⟨xs, .inr gt6, keep⟩) fr (P6.mono (by omega)) B06⟩
end
end K10
namespace K10
open PySem PySem.Spec PyProof.Rows L2 He Tw
/-! ### what is heard, as data -/
def wordD : Wd → PyData
  | none => .list [.none]
  | some (t, n) => .tuple [.str t, .int n]
def WdOk (wd : Wd) : Prop := wd = none ∨ ∃ (x : Str) (n : Int), wd = some (wordOf x, n) ∧ (x = "BadPlace" ∨ x = "Disordered")
theorem Runs.word {ps us : List (Int × Str)} {ds : List Deed} {wd : Wd} (h : Runs ps ds us wd) : WdOk wd := by
  cases h with
  | nil => exact .inl rfl
  | snoc _ s => exact s.word
theorem dp_wd {K : Fg} {H : Hp} {u : Addr} : ∀ {wd : Wd}, WdAt H u wd → Dp K H (.ref u) (wordD wd)
  | none, h => .lst (SqL.of h) (.cons .non .nil)
  | some (t, n), h => .tup (SqT.of h) (.cons (.str _) (.cons (.int _) .nil))
theorem shaped_none : SeqAt.shaped (.list [.none]) = true := by decide +kernel
theorem shaped_pair {t : Str} (n : Int) (h : PyData.strOk t = true) : SeqAt.shaped (.tuple [.str t, .int n]) = true := by
  simp [SeqAt.shaped, PyData.canLay, PyData.canLay0, PyData.canLayAll0, PyData.depth, PyData.depthAll, h]
theorem shaped_wd {wd : Wd} (h : WdOk wd) : SeqAt.shaped (wordD wd) = true := by
  rcases h with rfl | ⟨x, n, rfl, hx⟩
  · exact shaped_none
  · refine shaped_pair n ?_
    rcases hx with rfl | rfl <;> decide +kernel
theorem eqv_wd {wd : Wd} (h : WdOk wd) : PyData.eqv (wordD wd) (wordD wd) = true := SeqAt.eqv_refl _ (by
  rcases h with rfl | ⟨x, n, rfl, hx⟩
  · decide +kernel
  · rcases hx with rfl | rfl <;> simp [wordD, wordOf, PyData.canLay, PyData.canLay0, PyData.canLayAll0, PyData.depth, PyData.depthAll] <;> decide +kernel)
theorem eqv_some {t : Str} {n : Int} : PyData.eqv (wordD (some (t, n))) (.list [.none]) = false := rfl
theorem DeedAt.lst {H H' : Hp} {N : Addr → Prop} {p dd : Addr} {d : Deed} {ys : List V} (hN : ∀ b, N b → b ≠ p) (hp : H p = some (.lst ys)) (h : DeedAt N H dd d) (e : But p H H') : DeedAt N H' dd d := by
  refine h.keep (fun b xs z => e _ _ z fun q => ?_) fun b xs n z => ⟨n, e _ _ z (hN b n)⟩
  rw [q, hp] at z
  cases z
/-! ### what stands while deeds are gathered -/
def Nd (pn a D O : Addr) : Addr → Prop := fun b => b ≠ pn ∧ b ≠ a ∧ b ≠ D ∧ b ≠ O
structure Tc (K : Fg) (H : Hp) (pn a D O g gl du : Addr) (ys ts xs dvs ovs : List V) (ps us : List (Int × Str)) (ds : List Deed) (wd : Wd) : Prop where
  row : RowAt K H a ys
  its : Its K H ys ps
  gp : H g = some (.lst ts)
  prs : Prs H ts ps
  tk : Tk K H
  hl : H gl = some (.lst xs)
  prl : Prs H xs us
  hw : WdAt H du wd
  dv : DsAt K H (Nd pn a D O) dvs ovs ds
  ng : g ≠ pn ∧ g ≠ D ∧ g ≠ O
  nl : gl ≠ pn ∧ gl ≠ D ∧ gl ≠ O
  nu : du ≠ pn ∧ du ≠ D ∧ du ≠ O
section
variable {K : Fg} {H H' : Hp} {pn a D O g gl du p : Addr} {ys ts xs dvs ovs zs : List V} {ps us : List (Int × Str)} {ds : List Deed} {wd : Wd}
theorem WdAt.keep (kt : ∀ b xs, H b = some (.tup xs) → H' b = some (.tup xs)) (kl : ∀ xs, H du = some (.lst xs) → H' du = some (.lst xs)) : ∀ {wd : Wd}, WdAt H du wd → WdAt H' du wd
  | none, h => kl _ h
  | some (_, _), h => kt _ _ h
/-- a list at one of three places changes -/
theorem Tc.but (S : Tc K H pn a D O g gl du ys ts xs dvs ovs ps us ds wd) (hp : p = pn ∨ p = D ∨ p = O) (hz : H p = some (.lst zs)) (e : But p H H') : Tc K H' pn a D O g gl du ys ts xs dvs ovs ps us ds wd := by
  have ne : ∀ {b : Addr}, b ≠ pn ∧ b ≠ D ∧ b ≠ O → b ≠ p := fun {b} ⟨n1, n2, n3⟩ => by
    rcases hp with rfl | rfl | rfl
    · exact n1
    · exact n2
    · exact n3
  have nk : ∀ {b : Addr} {u : HO}, H b = some u → (∀ xs, u ≠ .lst xs) → b ≠ p := fun {b u} h n z => by
    rw [z, hz] at h
    cases h
    exact n _ rfl
  have kt : ∀ b xs, H b = some (.tup xs) → H' b = some (.tup xs) := fun b xs h => e _ _ h (nk h fun _ y => nomatch y)
  have ki : ∀ a dx i z, H a = some (.ins (ga K "Item") dx [("rank", .int i), ("name", .str z)]) → H' a = some (.ins (ga K "Item") dx [("rank", .int i), ("name", .str z)]) := fun _ _ _ _ h => e _ _ h (nk h fun _ y => nomatch y)
  obtain ⟨dx, t, h1, h2⟩ := S.row
  exact ⟨⟨dx, t, e _ _ h1 (nk h1 fun _ y => nomatch y), kt _ _ h2⟩, its_keep ki S.its, e _ _ S.gp (ne S.ng), S.prs.keep kt, tbn_lst S.tk e hz, e _ _ S.hl (ne S.nl), S.prl.keep kt, S.hw.keep kt (fun xs h => e _ _ h (ne S.nu)), S.dv.map fun x => x.lst (fun b n => ne ⟨n.1, n.2.2⟩) hz e, S.ng, S.nl, S.nu⟩
theorem Tc.same (S : Tc K H pn a D O g gl du ys ts xs dvs ovs ps us ds wd) (e : Same H H') : Tc K H' pn a D O g gl du ys ts xs dvs ovs ps us ds wd :=
  ⟨S.row.same e, S.its.same e, e _ _ S.gp, prs_same e S.prs, Tbn.ext S.tk e, e _ _ S.hl, prs_same e S.prl, S.hw.same e, S.dv.map fun x => x.same e, S.ng, S.nl, S.nu⟩
end
end K10
namespace K10
open PySem PySem.Spec PyProof.Rows L2 He Tw
/-- deeds tried together -/
def spTried (K : Fg) : Sp := fun vs H Q _ => ∃ (pn l a g : Addr) (c : Nat) (ps : List (Int × Str)), vs = [.ref pn, .ref a, .ref g] ∧ Sx K H pn l c a g ps ∧ c ≤ 300000 ∧ Rw 60 ps ∧
  ∀ (us : List (Int × Str)) (g' : Addr) (H' : Hp), Rw 176 us → Sx K H' pn l (c + 2500) a g' us → Q (.ref g') H'
abbrev s_tried : Stmt := topS 45
abbrev N_tried : List Str := ["_law_pen_here", "_law_row", "_law_pairs_here", "_law_deeds", "_law_others", "_law_later", "_law_due", "_law_k", "_law_deed_here", "_law_heard_here"]
theorem sc_tried : FnScope N_tried ["_law_pen_here", "_law_row", "_law_pairs_here"] (defScope s_tried) := ⟨rfl, rfl, rfl, by decide +kernel, rfl, by decide +kernel, by decide +kernel⟩
section
variable {P : Program} {w : World} {K : Fg} {mg : Str → Option Value} {base : Heap} {fd : Nat → FuncData}
theorem G_tried (D : DefsK K fd) (T : Txt K mg) (tb : TBs K mg base) : FnOk P w K mg base CX0 24 (ga K "_law_tried") (fd 37) ["_law_pen_here", "_law_row", "_law_pairs_here"] (spTried K) := by
  have zr : mg "range" = none := T.bl (by decide +kernel)
  have gD := T.fn (x := "_law_draw") (by decide +kernel)
  have FD : FnP K "_law_draw" "_law_draw" s_draw (ga K "_law_draw") (fd 24) := D 24 _ rfl
  have GD : FnOk P w K mg base CX0 1 _ (fd 24) ["_law_pen_here", "_law_many"] spDrawL := ok_draw FD T
  have bD : Binds K (fd 24) ["_law_pen_here", "_law_many"] [] := FD.bindsN fun _ _ _ _ _ _ us hl => match us, hl with | [_, _], _ => rfl
  have gE := T.fn (x := "_law_deed") (by decide +kernel)
  have FE : FnP K "_law_deed" "_law_deed" s_deed (ga K "_law_deed") (fd 34) := D 34 _ rfl
  have GE : FnOk P w K mg base CX0 4 _ (fd 34) ["_law_pen_here", "_law_pairs_here"] spDeed := G_deed D T
  have bE : Binds K (fd 34) ["_law_pen_here", "_law_pairs_here"] [] := FE.bindsN fun _ _ _ _ _ _ us hl => match us, hl with | [_, _], _ => rfl
  have gV := T.fn (x := "_law_values_of") (by decide +kernel)
  have FV : FnP K "_law_values_of" "_law_values_of" s_vof (ga K "_law_values_of") (fd 35) := D 35 _ rfl
  have GV : FnOk P w K mg base CX0 8 _ (fd 35) ["_law_pen_here", "_law_deed_here"] (spVof K) := G_vof D T
  have bV : Binds K (fd 35) ["_law_pen_here", "_law_deed_here"] [] := FV.bindsN fun _ _ _ _ _ _ us hl => match us, hl with | [_, _], _ => rfl
  have gS := T.fn (x := "_law_step") (by decide +kernel)
  have FS : FnP K "_law_step" "_law_step" s_step (ga K "_law_step") (fd 32) := D 32 _ rfl
  have GS : FnOk P w K mg base CX0 3 _ (fd 32) ["_law_pairs_here", "_law_deed_here"] spStep := G_step D T
  have bS : Binds K (fd 32) ["_law_pairs_here", "_law_deed_here"] [] := FS.bindsN fun _ _ _ _ _ _ us hl => match us, hl with | [_, _], _ => rfl
  have gO := T.fn (x := "_law_all") (by decide +kernel)
  have FO : FnP K "_law_all" "_law_all" s_all (ga K "_law_all") (fd 36) := D 36 _ rfl
  have GO : ∀ base' : Heap, Sub base base' → FnOk P w K mg base' (L2.CX P w) 11 _ (fd 36) ["_law_row", "_law_deeds", "_law_others"] (spAll K) := fun base' s => G_all D T (tb.up s)
  have bO : Binds K (fd 36) ["_law_row", "_law_deeds", "_law_others"] [] := FO.bindsN fun _ _ _ _ _ _ us hl => match us, hl with | [_, _, _], _ => rfl
  have gT := T.fn (x := "_law_told") (by decide +kernel)
  have FT : FnP K "_law_told" "_law_told" s_told (ga K "_law_told") (fd 28) := D 28 _ rfl
  have GT : FnOk P w K mg base CX0 1 _ (fd 28) ["_law_listed"] (spTold K) := ok_told FT T
  have bT : Binds K (fd 28) ["_law_listed"] [] := FT.bindsN fun _ _ _ _ _ _ us hl => match us, hl with | [_], _ => rfl
  have FLi : FnP K "listed" "Row.listed" s_lst (ma K (ga K "Row") "listed") (fd 8) := D 8 _ rfl
  have GLi : FnOk P w K mg base CX0 1 _ (fd 8) ["self"] (spListed K) := ok_lst FLi T
  have bLi : Binds K (fd 8) ["self"] [] := FLi.bindsN fun _ _ _ _ _ _ us hl => match us, hl with | [_], _ => rfl
  have mL := T.mtR (m := "listed") (by decide +kernel)
  have FA : FnP K "attempt" "Row.attempt" s_at (ma K (ga K "Row") "attempt") (fd 48) := D 48 _ rfl
  have bA : Binds K (fd 48) ["self", "deed"] [] := FA.bindsN fun _ _ _ _ _ _ us hl => match us, hl with | [_, _], _ => rfl
  have RA : ∀ base' : Heap, Sub base base' → FnR P w K mg base' (L2.CX P w) 15 _ (spAt 14 P w K mg base') := fun base' s => (FnOk.raw (G_at (by decide) D T) bA .nil).imp fun vs H Q E h => by rw [List.append_nil]; exact h
  have mA := T.mtR2 (m := "attempt") (by decide +kernel)
  have gH := T.fn (x := "_law_heard") (by decide +kernel)
  have FH : FnP K "_law_heard" "_law_heard" s_heard (ga K "_law_heard") (fd 29) := D 29 _ rfl
  have bH : Binds K (fd 29) ["_law_ask"] [] := FH.bindsN fun _ _ _ _ _ _ us hl => match us, hl with | [_], _ => rfl
  have RH : ∀ base' : Heap, Sub base base' → FnR P w K mg base' CX0 18 _ (spHF 17 P w K mg base') := fun base' s => (FnOk.raw (G_heard FH T) bH .nil).imp fun vs H Q E h => by rw [List.append_nil]; exact h
  have TB := tb (fun K => ga K "_law_tried") (by simp [tabs])
  have F : FnP K "_law_tried" "_law_tried" s_tried (ga K "_law_tried") (fd 37) := D 37 _ rfl
  obtain ⟨oc, od, dV, kV, doc, pm, an, cdv, ct, osl, e0, lk, hcd, _, _⟩ := F.ex
  rw [e0] at lk ⊢
  obtain ⟨cc, rfl⟩ := codeIn_ref hcd
  have ec : Tw.codeAt K (ga K "_law_tried") = cc := by
    unfold Tw.codeAt
    rw [lk]
  rw [ec] at TB
  have hmT : (tabAt K (ga K "_law_tried"), nm "_law_tried") ∈ Tb K := by simp [Tb]
  refine fn_of lk hcd sc_tried (fun vs H Q E h => ?_) (fun A outer s H vs Q E hr h => ?_)
  · obtain ⟨pn, l, a, g, c, ps, rfl, _⟩ := h
    rfl
  · obtain ⟨pn, l, a, g, c, ps, rfl, S0, hc, rw0, k⟩ := h
    refine ⟨_, PSs.nox (pss_cons (ps_asg (pe_tupN (pa_cons (pe_lstN pa_nil) (pa_cons (pe_lstN pa_nil) (pa_cons (pv 2) (pa_cons (pe_lstN (pa_cons pe_non pa_nil)) pa_nil))))) (pg_tup (by rfl) (pgs_cons (pg_name (i := 3) sc_tried.nd rfl (Or.inr rfl)) (pgs_cons (pg_name (i := 4) sc_tried.nd rfl (Or.inr rfl)) (pgs_cons (pg_name (i := 5) sc_tried.nd rfl (Or.inl rfl)) (pgs_cons (pg_name (i := 6) sc_tried.nd rfl (Or.inl rfl)) pgs_nil))))))
    (pss_cons (ps_for PassesOwn.never rfl (pi_range1 rfl zr (pa_cons (pe_op op_add pe_int (pe_call (E := E0) GD (hr.mono (by decide)) rfl gD FD.kp bD .nil pass0 (pa_cons (pv 0) (pa_cons pe_int pa_nil)))) pa_nil)) (pg_name (i := 7) sc_tried.nd rfl (Or.inl rfl))
    (pss_cons (ps_set (i := 8) sc_tried.nd rfl (Or.inl rfl) (pe_call (E := E0) GE (hr.mono (by decide)) rfl gE FE.kp bE .nil pass0 (pa_cons (pv 0) (pa_cons (pv 5) pa_nil))))
    (pss_one (ps_if (pt_cmpR (op_eqD hr.units) (pv 6) (pe_lstN (pa_cons pe_non pa_nil)) (nomark _)) (pss_cons (ps_expr (pe_bm PySem.F.plainAttrs_list PySem.F.slot_list_append PySem.F.type_list_append mt_append (pv 3) (pa_cons (pv 8) pa_nil)))
    (pss_cons (ps_expr (pe_bm PySem.F.plainAttrs_list PySem.F.slot_list_append PySem.F.type_list_append mt_append (pv 4) (pa_cons (pe_call (E := E0) GV (hr.mono (by decide)) rfl gV FV.kp bV .nil pass0 (pa_cons (pv 0) (pa_cons (pv 8) pa_nil))) pa_nil)))
    (pss_one (ps_asg (pe_call (E := E0) GS (hr.mono (by decide)) rfl gS FS.kp bS .nil pass0 (pa_cons (pv 5) (pa_cons (pv 8) pa_nil))) (pg_tup (by rfl) (pgs_cons (pg_name (i := 5) sc_tried.nd rfl (Or.inl rfl)) (pgs_cons (pg_name (i := 6) sc_tried.nd rfl (Or.inl rfl)) pgs_nil))))))) pss_nil))))
    (pss_mid (ps_if (pt_cmpR (op_neD hr.units) (pv 6) (pe_lstN (pa_cons pe_non pa_nil)) (nomark _)) (pss_one (ps_set (i := 5) sc_tried.nd rfl (Or.inl rfl) (pv 2))) pss_nil)
    (pss_cons (ps_set (i := 9) sc_tried.nd rfl (Or.inl rfl)
        (pe_lamG (E := fun _ => E0) (CX := CX0) (host := host) (L := Tb K) (pre := fun _ => True) (k := 16) (xs := []) (cs := ["_law_row", "_law_deeds", "_law_others"]) (caps := [1, 3, 4]) (tb := fun c' P' E => tLamM P w K mg host ((P', nm (nm "_law_tried")) :: Tb K) (fun H => H c' = some (CodeN c' (nm "_law_tried") P')) (nm (nm "_law_tried")) 13 1 (fun _ _ E => tCallS (spAll K) (fun _ => E) (tCons (tVar 0) (tCons (tVar 1) (tCons (tVar 2) tNil)))) [1, 2] (ga K "Row") "attempt" (spAt 14 P w K mg) (fun _ => E) (tVar 0)) (Pr := P) (wo := w) (K := K) (mg := mg) (qn := nm "_law_tried")
          (by exact ⟨made_def TB rfl hmT, bmIn TB, cellsOut_def (fun _ => rfl), lamQ_by (sc := defScope s_tried) (by decide +kernel), (caps_by (N := N_tried) (by decide +kernel)), rfl, by decide +kernel, rfl, (fun us _ _ _ _ _ hu => match us, hu with | [], _ => rfl),
            (fun base A outer s1 H1 E f c' P' hsub hr2 hout => pe_lamM (E := fun _ => E) (xs := ["_law_held"]) (cs := ["_law_deeds", "_law_others"]) (caps := [1, 2]) (pe_var (x := "_law_row") (i := 0) rfl (.inr (.inr rfl))) T.clsR mA
              (by exact ⟨made_lam rfl List.mem_cons_self, (bmIn TB).up hsub, hout, lamQ_by (by rfl), (caps_by (N := ["_law_row", "_law_deeds", "_law_others"]) (by decide +kernel)), rfl, by decide +kernel, rfl, (fun us _ _ _ _ _ hu => match us, hu with | [_], _ => rfl),
                (fun base3 A3 outer3 s3 H3 E3 f3 c3 P3 hsub3 hr3 hout3 => pe_callS (E := fun _ => E3) (GO base3 (hsub.trans hsub3)) (hr3.mono (by decide)) rfl gO FO.kp bO (fun σ => fun pins H s e s' I c => (passes_call (takes_of rfl rfl rfl rfl) (fun _ _ _ _ h => h)) pins σ H s e s' I c) (pa_cons (pe_var (x := "_law_held") (i := 0) rfl (.inl rfl)) (pa_cons (pe_var (x := "_law_deeds") (i := 1) rfl (.inr (.inr rfl))) (pa_cons (pe_var (x := "_law_others") (i := 2) rfl (.inr (.inr rfl))) pa_nil))))⟩)
              (fun base' s' => RA base' (hsub.trans s')) (hr2.mono (by decide)) (fun σ pins H s e s' I c => (passes_call (takes_of rfl rfl rfl rfl) (fun _ _ _ _ h => h)) pins σ H s e s' I c))⟩)
          RH (hr.mono (by decide)) rfl gH FH.kp (fun σ pins H s e s' I c => c.elim)))
    (pss_one (ps_ret (pe_ifExp (PW.pt (pw_and (pt_cmpR (op_eqD hr.units) (pv 9) (pv 6) (nomark _)) (pw_and1 (pt_cmpR (op_eqD hr.units) (pe_call (E := E0) GT (hr.mono (by decide)) rfl gT FT.kp bT .nil pass0 (pa_cons (pe_meth0 (E := E0) (pv 1) T.clsR mL GLi (hr.mono (by decide)) bLi .nil pass0) pa_nil)) (pv 5) (nomark _))))) (pv 5) pe_non))))))), ?_⟩
    obtain ⟨hP, ⟨ys, ra, ia⟩, ⟨ts, hg, prs⟩, hT, ng⟩ := S0
    obtain ⟨da, ta, ha, hta⟩ := id ra
    refine ⟨sz1000 (by show 0 ≤ 1000; decide), fun DD H1 f1 m1 s1 g1 => ⟨sz1000 (by show 0 ≤ 1000; decide), fun O H2 f2 m2 s2 g2 => ⟨_, rfl, sz1000 (by show 1 ≤ 1000; decide), fun du H3 f3 m3 s3 g3 => ⟨sz1000 (by show 4 ≤ 1000; decide), fun tt H4 f4 s4 g4 => ?_⟩⟩⟩⟩
    have s24 := s3.trans s4
    have s14 := s2.trans s24
    have s04 := s1.trans s14
    have ex : ∀ {b : Addr} {o : HO}, H b = some o → b ≠ DD ∧ b ≠ O ∧ b ≠ du := fun {b o} h => ⟨(fun z => by rw [z, f1] at h; cases h), (fun z => by rw [z, s1.free f2] at h; cases h), (fun z => by rw [z, (s1.trans s2).free f3] at h; cases h)⟩
    obtain ⟨ns, pi, pg, hpn, _⟩ := id hP
    obtain ⟨e1, e2, e3⟩ := ex hpn
    obtain ⟨a1, a2, a3⟩ := ex ha
    obtain ⟨b1, b2, b3⟩ := ex hg
    have nwD := hP.new f1
    have nwO := (hP.same s1).new f2
    have nDO : DD ≠ O := fun z => by rw [← z, g1] at f2; cases f2
    have nDd : du ≠ DD := fun z => by rw [z, s2 _ _ g1] at f3; cases f3
    have nOd : du ≠ O := fun z => by rw [z, g2] at f3; cases f3
    have nap : a ≠ pn := ne_pen hP ha fun _ y => nomatch y
    have C0 : Tc K H4 pn a DD O g g du ys ts ts [] [] ps ps [] none := ⟨ra.same s04, ia.same s04, s04 _ _ hg, prs_same s04 prs, Tbn.ext hT s04, s04 _ _ hg, prs_same s04 prs, s4 _ _ g3, ⟨rfl, rfl, fun i d h => nomatch h⟩, ⟨ng, b1, b2⟩, ⟨ng, b1, b2⟩, ⟨fun z => e3 z.symm, nDd, nOd⟩⟩
    refine ⟨tt, _, rfl, SqT.of g4, rfl, _, _, rfl, _, _, rfl, _, _, rfl, _, _, rfl, rfl, ?_⟩
    refine ⟨_, rfl, pn, l, 4, c, rfl, by decide, by decide, hP.same s04, by omega, fun r H5 r0 r4 P5 B5 => ?_⟩
    have C5 := C0.but (.inl rfl) (s04 _ _ hpn) B5
    have hD5 := B5 _ _ (s14 _ _ g1) (fun z => e1 z.symm)
    have hO5 := B5 _ _ (s24 _ _ g2) (fun z => e2 z.symm)
    refine ⟨_, _, rfl, rfl, 1 + r, rfl, by omega, by omega, ?_⟩
    refine for_range (lo := 0) (n := (1 + r).toNat) (fun i σ H' => ∃ (v7 v8 : Option V) (gl du : Addr) (xs dvs ovs : List V) (us : List (Int × Str)) (ds : List Deed) (wd : Wd), σ = [some (.ref pn), some (.ref a), some (.ref g), some (.ref DD), some (.ref O), some (.ref gl), some (.ref du), v7, v8, none] ∧ Tc K H' pn a DD O g gl du ys ts xs dvs ovs ps us ds wd ∧ PenL H' pn l (c + 1 + 600 * i) ∧ H' DD = some (.lst dvs) ∧ H' O = some (.lst ovs) ∧ Runs ps ds us wd ∧ ds.length ≤ i ∧ ∀ d ∈ ds, DeedOk d)
      ⟨none, none, g, du, ts, [], [], ps, [], none, rfl, C5, P5, hD5, hO5, .nil, Nat.zero_le _, fun _ h => nomatch h⟩ ?_ ?_
    · rintro i σ H6 hi ⟨v7, v8, gl, du, xs, dvs, ovs, us, ds, wd, rfl, C6, P6, hD6, hO6, run, li, okd⟩
      have R6 := run.rw rw0 okd
      have hi4 : i < 4 := by omega
      obtain ⟨da6, ta6, ha6, hta6⟩ := id C6.row
      obtain ⟨ns6, pi6, pg6, hpn6, _⟩ := id P6
      refine ⟨_, rfl, _, rfl, pn, l, gl, c + 1 + 600 * i, xs, us, rfl, P6, by omega, C6.hl, C6.nl.1, C6.prl, ⟨R6.asc, R6.gs, Nat.le_trans R6.few (by omega)⟩, fun d dd H7 hok de P7 B7 => ?_⟩
      have C7 := C6.but (.inl rfl) hpn6 B7
      have hD7 := B7 _ _ hD6 (fun z => e1 z.symm)
      have hO7 := B7 _ _ hO6 (fun z => e2 z.symm)
      have frN : ∀ b : Addr, H6 b = none → Nd pn a DD O b := fun b h => ⟨(fun z => by rw [z, hpn6] at h; cases h), (fun z => by rw [z, ha6] at h; cases h), (fun z => by rw [z, hD6] at h; cases h), (fun z => by rw [z, hO6] at h; cases h)⟩
      have de7 : DeedAt (Nd pn a DD O) H7 dd d := de.mono fun b xs n _ => frN b n
      refine ⟨_, rfl, sz1000 (by show 1 ≤ 1000; decide), fun q8 H8 f8 m8 s8 g8 => ⟨wordD wd, .list [.none], dp_wd (C7.hw.same s8), .lst (SqL.of g8) (.cons .non .nil), shaped_wd run.word, shaped_none, ?_⟩⟩
      have C8 := C7.same s8
      have P8 := P7.same s8
      cases wd with
      | some tn =>
        obtain ⟨t, n⟩ := tn
        refine ⟨_, rfl, iteFe eqv_some ?_⟩
        exact ⟨_, _, gl, du, xs, dvs, ovs, us, ds, _, rfl, C8, P8.mono (by omega), s8 _ _ hD7, s8 _ _ hO7, run, by omega, okd⟩
      | none =>
        refine ⟨_, rfl, iteTe (by rfl) ?_⟩
        have hD8 := s8 _ _ hD7
        have hO8 := s8 _ _ hO7
        have de8 := de7.same s8
        obtain ⟨lv1, lv2, _⟩ := id C8.dv
        refine ⟨_, rfl, .inl ⟨rfl, _, SqL.of hD8⟩, _, rfl, DD, _, _, rfl, rfl, hD8, by rw [lv1, sizeLine_eq]; omega, ?_⟩
        have B9 : But DD H8 (upd H8 DD (.lst (dvs ++ [.ref dd]))) := But.upd
        have hD9 : (upd H8 DD (.lst (dvs ++ [.ref dd]))) DD = some (.lst (dvs ++ [.ref dd])) := upd_same
        have P9 := P8.upd (o := .lst (dvs ++ [.ref dd])) nwD.1 nwD.2
        generalize (upd H8 DD (.lst (dvs ++ [.ref dd]))) = H9 at B9 hD9 P9 ⊢
        have C9 := C8.but (.inr (.inl rfl)) hD8 B9
        have hO9 := B9 _ _ hO8 (fun z => nDO z.symm)
        have de9 := de8.lst (fun b n => n.2.2.1) hD8 B9
        obtain ⟨ns9, pi9, pg9, hpn9, _⟩ := id P9
        obtain ⟨da9, ta9, ha9, hta9⟩ := id C9.row
        refine ⟨_, rfl, .inl ⟨rfl, _, SqL.of hO9⟩, _, rfl, _, rfl, Nd pn a DD O, pn, l, dd, _, d, rfl, (fun b n => n.1), P9, by omega, hok, de9, fun v H10 vl fv P10 B10 => ⟨O, _, _, rfl, rfl, B10 _ _ hO9 (fun z => e2 z.symm), by rw [lv2, sizeLine_eq]; omega, ?_⟩⟩
        have hO10 := B10 _ _ hO9 (fun z => e2 z.symm)
        have hD10 := B10 _ _ hD9 (fun z => e1 z.symm)
        have C10 := C9.but (.inl rfl) hpn9 B10
        have nv : Nd pn a DD O v := ⟨(fun z => by rw [z, hpn9] at fv; cases fv), (fun z => by rw [z, ha9] at fv; cases fv), (fun z => by rw [z, hD9] at fv; cases fv), (fun z => by rw [z, hO9] at fv; cases fv)⟩
        have dv10 : DvAt K H10 (Nd pn a DD O) dd v d := ⟨de9.lst (fun b n => n.1) hpn9 B10, vl, nv⟩
        have B11 : But O H10 (upd H10 O (.lst (ovs ++ [.ref v]))) := But.upd
        have hO11 : (upd H10 O (.lst (ovs ++ [.ref v]))) O = some (.lst (ovs ++ [.ref v])) := upd_same
        have P11 := P10.upd (o := .lst (ovs ++ [.ref v])) nwO.1 nwO.2
        generalize (upd H10 O (.lst (ovs ++ [.ref v]))) = H11 at B11 hO11 P11 ⊢
        have C11 := C10.but (.inr (.inr rfl)) hO10 B11
        have hD11 := B11 _ _ hD10 nDO
        have dv11 := dv10.lst (fun b n => n.2.2.2) hO10 B11
        obtain ⟨ns11, pi11, pg11, hpn11, _⟩ := id P11
        refine ⟨_, rfl, _, rfl, Nd pn a DD O, gl, dd, xs, us, d, rfl, C11.hl, C11.prl, ⟨R6.asc, R6.gs, Nat.le_trans R6.few (by omega)⟩, hok, dv11.de, fun us2 wd2 st t l2 u H12 xs2 s12 gt hl2 pr2 fl fu wa => ?_⟩
        refine ⟨t, _, rfl, SqT.of gt, rfl, _, _, rfl, _, _, rfl, rfl, ?_⟩
        have C12 := C11.same s12
        have three : ∀ b, H11 b = none → b ≠ pn ∧ b ≠ DD ∧ b ≠ O := fun b h => ⟨(fun z => by rw [z, hpn11] at h; cases h), (fun z => by rw [z, hD11] at h; cases h), (fun z => by rw [z, hO11] at h; cases h)⟩
        have nl2 : l2 ≠ pn ∧ l2 ≠ DD ∧ l2 ≠ O := by
          rcases fl with h | h
          · exact three l2 h
          · rw [h]
            exact C11.nl
        refine ⟨_, _, l2, u, xs2, dvs ++ [.ref dd], ovs ++ [.ref v], us2, ds ++ [d], wd2, rfl, ⟨C12.row, C12.its, C12.gp, C12.prs, C12.tk, hl2, pr2, wa, C12.dv.snoc (dv11.same s12), C12.ng, nl2, three u fu⟩, (P11.same s12).mono (by omega), s12 _ _ hD11, s12 _ _ hO11, run.snoc st, by rw [List.length_append]; show ds.length + 1 ≤ i + 1; omega, fun x hx => ?_⟩
        rcases List.mem_append.mp hx with z | z
        · exact okd x z
        · have e : x = d := by simpa using z
          rw [e]
          exact hok
    · rintro σ H6 ⟨v7, v8, gl, du, xs, dvs, ovs, us, ds, wd, rfl, C6, P6, hD6, hO6, run, li, okd⟩
      refine ⟨fun σ' H' => ∃ (v7 v8 : Option V) (gf : Addr) (xf : List V) (uf : List (Int × Str)), σ' = [some (.ref pn), some (.ref a), some (.ref g), some (.ref DD), some (.ref O), some (.ref gf), some (.ref du), v7, v8, none] ∧ Same H6 H' ∧ H' gf = some (.lst xf) ∧ Prs H' xf uf ∧ gf ≠ pn ∧ (wd = none → uf = us) ∧ (wd ≠ none → uf = ps), ?_, ?_⟩
      · refine ⟨_, rfl, sz1000 (by show 1 ≤ 1000; decide), fun q8 H8 f8 m8 s8 g8 => ⟨wordD wd, .list [.none], dp_wd (C6.hw.same s8), .lst (SqL.of g8) (.cons .non .nil), shaped_wd run.word, shaped_none, ?_⟩⟩
        cases wd with
        | some tn =>
          obtain ⟨t, n⟩ := tn
          refine ⟨_, rfl, iteTe (by rw [eqv_some]; rfl) ?_⟩
          exact ⟨_, rfl, _, _, g, ts, ps, rfl, s8, s8 _ _ C6.gp, prs_same s8 C6.prs, ng, (fun z => nomatch z), fun _ => rfl⟩
        | none =>
          refine ⟨_, rfl, iteFe (by rfl) ?_⟩
          exact ⟨_, _, gl, xs, us, rfl, s8, s8 _ _ C6.hl, prs_same s8 C6.prl, C6.nl.1, (fun _ => rfl), fun z => absurd rfl z⟩
      rintro σ' H8 ⟨v7, v8, gf, xf, uf, rfl, s8, hgf, prf, ngf, u1, u2⟩
      have C8 := C6.same s8
      have P8 := P6.same s8
      have hD8 := s8 _ _ hD6
      have hO8 := s8 _ _ hO6
      have l4 : ds.length ≤ 4 := by omega
      have R6 := run.rw rw0 okd
      have S8 : Sx K H8 pn l (c + 2500) a g ps := ⟨P8.mono (by omega), ⟨ys, C8.row, C8.its⟩, ⟨ts, C8.gp, C8.prs⟩, C8.tk, C8.ng.1⟩
      obtain ⟨da8, ta8, ha8, hta8⟩ := id C8.row
      refine ⟨C8.tk, trivial, fun f9 c9 P9 H9 base9 e9 T9 T9' hc9 hfa9 FL9 => ?_⟩
      refine ⟨f9, _, rfl, hfa9, FL9, fun E' Q' herr hok => ?_⟩
      have ha9 := e9 _ _ ha8 fun _ z => nomatch z
      refine ⟨rfl, hc9, _, rfl, a, da8, _, rfl, ha9, rfl, T9' _ rfl, hc9, fun fA cA PA HA baseA eA TA _ hcA hfaA FLA => ?_⟩
      have e14 : LamX.ExtN H8 HA := e9.trans eA
      have haA := e14 _ _ ha8 fun _ z => nomatch z
      have htA := e14 _ _ hta8 fun _ z => nomatch z
      have raA : RowAt K HA a ys := ⟨da8, ta8, haA, htA⟩
      have TA' : Tk K HA := TA.less fun p hp => List.mem_cons_of_mem _ hp
      have lsB : ∀ {G : Hp} {b : Addr} {xs : List V}, ButN a HA G → H8 b = some (.lst xs) → G b = some (.lst xs) := fun {G b xs} bn h => bn _ _ (e14 _ _ h fun _ z => nomatch z) (lst_ne raA (e14 _ _ h fun _ z => nomatch z)) fun _ z => nomatch z
      have tpB : ∀ {G : Hp}, ButN a HA G → ∀ b xs, H8 b = some (.tup xs) → G b = some (.tup xs) := fun {G} bn b xs h => bn _ _ (e14 _ _ h fun _ z => nomatch z) (fun q => by
        have z := e14 _ _ h fun _ z => nomatch z
        rw [q, haA] at z
        cases z) fun _ z => nomatch z
      refine ⟨a, fA, ta8, _, fun v H16 => v = .non ∧ wd = none ∧ ButN a HA H16 ∧ Tk K H16 ∧ ∃ ys', RowAt K H16 a ys' ∧ Its K H16 ys' us, fun cls d H16 => ∃ (x : Str) (n : Int) (dd : Addr), wd = some (wordOf x, n) ∧ (x = "BadPlace" ∨ x = "Disordered") ∧ cls = .ref (ga K x) ∧ d = some dd ∧ ButN a HA H16 ∧ Tk K H16 ∧ (∃ s1, StAt K H16 a s1) ∧ H16 dd = some (.xd [("at", .int n)]), rfl, ⟨da8, haA⟩, hfaA, FLA, fun HB Q1 E1 sB don fail => ?_, fun v H16 dn => ?_, fun cls d H16 H17 fl B17 st => ?_⟩
      · refine ⟨rfl, sB _ _ hcA, _, rfl, _, rfl, _, rfl, Nd pn a DD O, a, DD, O, da8, ta8, ys, dvs, ovs, ps, us, ds, wd, rfl, (fun b n => n.2.1), sB _ _ haA, sB _ _ htA, (its_ext e14 C8.its).same sB, rw0, l4, okd, sB _ _ (e14 _ _ hD8 fun _ z => nomatch z), sB _ _ (e14 _ _ hO8 fun _ z => nomatch z), (C8.dv.map fun x => (x.ext e14).same sB), Tbn.ext TA' sB, run, fun hw H18 ys' bn T18 r18 i18 => ?_, fun x n hw hx b H18 bn T18 st g18 => ?_⟩
        · obtain ⟨d18, t18, h18, _⟩ := id r18
          exact don _ _ bn ⟨t18, d18, h18⟩ ⟨rfl, hw, fun b u h n1 n2 => bn _ _ (sB _ _ h) n1 n2, T18, ys', r18, i18⟩
        · exact fail _ _ _ bn st ⟨.ref (ga K x), rfl, fun z => nomatch z⟩ ⟨x, n, b, hw, hx, rfl, rfl, fun b u h n1 n2 => bn _ _ (sB _ _ h) n1 n2, T18, st, g18⟩
      · obtain ⟨rfl, hw, bn, T16, ys', r16, i16⟩ := dn
        have uu := u1 hw
        subst uu
        refine hok _ H16 fun q17 H17 f17 s17 g17 => ?_
        have S17 : Sx K H17 pn l (c + 2500) a gf uf := ((S8.ext e14 TA').but bn T16 r16 i16 (lsB bn hgf) (prf.keep (tpB bn)) ngf).same s17
        have w17 : WdAt H17 du wd := (C8.hw.keep (tpB bn) fun xs h => lsB bn h).same s17
        have v17 : WdAt H17 q17 wd := by rw [hw]; exact g17
        obtain ⟨yz, rz, iz⟩ := S17.row
        obtain ⟨tz, hz, pz⟩ := S17.lst
        refine ⟨_, rfl, _, rfl, wordD wd, wordD wd, dp_wd v17, dp_wd w17, shaped_wd run.word, shaped_wd run.word, true, by rw [eqv_wd run.word], iteT ?_⟩
        refine told_eq (K := K) (i := 1) (j := 5) rfl rfl rz iz (Nat.le_trans R6.few (by omega)) hz pz (fun q hq => (R6.gs q hq).2.1) fun H20 s20 => ⟨true, rfl, iteT ?_⟩
        exact ⟨_, rfl, k uf gf H20 ⟨R6.asc, R6.gs, Nat.le_trans R6.few (by omega)⟩ (S17.same s20)⟩
      · obtain ⟨x, n, dd, hw, hx, rfl, rfl, bn, T16, ⟨s1', d1, ha16⟩, g16⟩ := fl
        have uu := u2 (by rw [hw]; exact fun z => nomatch z)
        subst uu
        obtain ⟨d17, ha17⟩ := st
        have ndd : dd ≠ a := fun z => by rw [z, ha16] at g16; cases g16
        obtain ⟨kx, hkx⟩ : ∃ kx : Nat, (x, kx, ("at" : Str)) ∈ errs := by
          rcases hx with rfl | rfl
          · exact ⟨6, by decide +kernel⟩
          · exact ⟨7, by decide +kernel⟩
        refine herr _ _ H17 ⟨(x, kx, "at"), n, dd, hkx, rfl, rfl, B17 _ _ g16 ndd, fun q H18 fq s18 g18 => ?_⟩
        have bn17 : ButN a HA H17 := bn.trans (ButN.but B17)
        have T17 : Tk K H17 := tbn_but T16 B17 ⟨_, _, _, ha16⟩
        have ra17 : RowAt K H17 a ys := ⟨d17, ta8, ha17, tpB bn17 _ _ hta8⟩
        have S18 : Sx K H18 pn l (c + 2500) a gf uf := ((S8.ext e14 TA').but bn17 T17 ra17 (its_butA raA bn17 (its_ext e14 C8.its)) (lsB bn17 hgf) (prf.keep (tpB bn17)) ngf).same s18
        have w18 : WdAt H18 du wd := (C8.hw.keep (tpB bn17) fun xs h => lsB bn17 h).same s18
        have v18 : WdAt H18 q wd := by rw [hw]; exact g18
        obtain ⟨yz, rz, iz⟩ := S18.row
        obtain ⟨tz, hz, pz⟩ := S18.lst
        refine ⟨_, rfl, _, rfl, wordD wd, wordD wd, dp_wd v18, dp_wd w18, shaped_wd run.word, shaped_wd run.word, true, by rw [eqv_wd run.word], iteT ?_⟩
        refine told_eq (K := K) (i := 1) (j := 5) rfl rfl rz iz (Nat.le_trans rw0.few (by omega)) hz pz (fun q hq => (rw0.gs q hq).2.1) fun H20 s20 => ⟨true, rfl, iteT ?_⟩
        exact ⟨_, rfl, k uf gf H20 ⟨rw0.asc, rw0.gs, Nat.le_trans rw0.few (by omega)⟩ (S18.same s20)⟩
end
end K10
/-! Gfz: while a generator sleeps, nothing that can't wake it changes it. A run that holds with the sleeper's continuation taken away holds with it, and leaves the sleeper as it was. -/
namespace Tw
open PySem PyProof.Rows L2 GenW

/-- a sleeper that can't be woken -/
def dumb : GenState → GenState
  | .suspended _ l c p fs cl => .suspended (fun _ => .unsupported "") l c p fs cl
  | x => x
def sleeps : GenState → Prop
  | .suspended .. => True
  | _ => False
theorem dumb_seen (x : GenState) : (dumb x).seen = x.seen := by cases x <;> rfl
theorem dumb_bare (x : GenState) : (dumb x).bare = x.bare := by cases x <;> rfl
theorem no_unsup0 {M : Model} {m : String} {Γ : Ctx} {p : Pos} {s s' : Shared} {e : End} (h : Runs M Γ p (.unsupported m) [] s e s') : False := by cases h
theorem no_unsup {M : Model} {m : String} {Γ : Ctx} {p : Pos} {fs : List Frame} {s s' : Shared} {e : End} (h : Runs M Γ p (.unsupported m) fs s e s') : False := by
  cases fs with
  | nil => exact no_unsup0 h
  | cons f fs => cases h <;> (rename_i h1; first | exact no_unsup0 h1 | (rename_i h2; exact no_unsup0 h2) | skip) <;> rename_i h1 h2 h3 <;> first | exact no_unsup0 h1 | exact no_unsup0 h2 | exact no_unsup0 h3

/-- the two tables of generators: alike, but that some sleepers of the first can't be woken; x sleeps at g -/
structure GRel (g : Nat) (x : GenState) (D G : Array GenState) : Prop where
  size : D.size = G.size
  at_ : ∀ (i : Nat) (y : GenState), D[i]? = some y → (G[i]? = some y ∧ ∀ k l c p fs cl, y = .suspended k l c p fs cl → splitAtGen fs = none) ∨ ∃ z, G[i]? = some z ∧ y = dumb z ∧ sleeps z
  here : G[g]? = some x
  hereD : D[g]? = some (dumb x)
  sl : sleeps x
section
variable {g : Nat} {x : GenState} {D G : Array GenState}
theorem GRel.alike (h : GRel g x D G) {i : Nat} {y : GenState} (e : D[i]? = some y) : ∃ z, G[i]? = some z ∧ y.seen = z.seen := by
  rcases h.at_ i y e with ⟨e1, _⟩ | ⟨z, e1, rfl, _⟩
  · exact ⟨y, e1, rfl⟩
  · exact ⟨z, e1, dumb_seen z⟩
theorem GRel.grow (h : GRel g x D G) (c : Code) : GRel g x (D.push (.fresh c)) (G.push (.fresh c)) where
  size := by rw [Array.size_push, Array.size_push, h.size]
  at_ := fun i y e => by
    rw [Array.getElem?_push] at e
    rw [Array.getElem?_push, ← h.size]
    split at e
    · rename_i hi
      cases e
      rw [if_pos hi]
      exact .inl ⟨rfl, fun k l c p fs cl z => by cases z⟩
    · rename_i hi
      rw [if_neg hi]
      exact h.at_ i y e
  here := by
    have := (Array.getElem?_eq_some_iff.mp h.here).1
    rw [Array.getElem?_push, if_neg (by omega)]; exact h.here
  hereD := by
    have := (Array.getElem?_eq_some_iff.mp h.hereD).1
    rw [Array.getElem?_push, if_neg (by omega)]; exact h.hereD
  sl := h.sl
theorem GRel.set (h : GRel g x D G) {j : Nat} {y : GenState} (hj : j ≠ g) (hy : ∀ k l c p fs cl, y = .suspended k l c p fs cl → splitAtGen fs = none) : GRel g x (D.setIfInBounds j y) (G.setIfInBounds j y) where
  size := by rw [Array.size_setIfInBounds, Array.size_setIfInBounds, h.size]
  at_ := fun i z e => by
    by_cases hi : i = j
    · subst hi
      have hlt : i < D.size := by
        have := (Array.getElem?_eq_some_iff.mp e).1
        rw [Array.size_setIfInBounds] at this
        exact this
      rw [Array.getElem?_setIfInBounds_self_of_lt hlt] at e
      cases e
      exact .inl ⟨Array.getElem?_setIfInBounds_self_of_lt (by rw [← h.size]; exact hlt), hy⟩
    · rw [Array.getElem?_setIfInBounds_ne (Ne.symm hi)] at e ⊢
      exact h.at_ i z e
  here := by rw [Array.getElem?_setIfInBounds_ne hj]; exact h.here
  hereD := by rw [Array.getElem?_setIfInBounds_ne hj]; exact h.hereD
  sl := h.sl
theorem GRel.atFresh (h : GRel g x D G) {i : Nat} {c : Code} (e : D[i]? = some (.fresh c)) : G[i]? = some (.fresh c) ∧ i ≠ g := by
  constructor
  · rcases h.at_ i _ e with ⟨e1, _⟩ | ⟨z, e1, ez, hz⟩
    · exact e1
    · cases z with
      | suspended k l c p fs cl => cases ez
      | _ => exact hz.elim
  · rintro rfl
    have := h.hereD
    rw [e] at this
    have hs := h.sl
    cases x with
    | suspended k l c p fs cl => cases this
    | _ => exact hs.elim
theorem GRel.plain (h : GRel g x D G) {i : Nat} {y : GenState} (e : D[i]? = some y) (hy : y = .running ∨ y = .finished) : G[i]? = some y := by
  rcases h.at_ i _ e with ⟨e1, _⟩ | ⟨z, e1, ez, hz⟩
  · exact e1
  · cases z with
    | suspended k l c p fs cl => rcases hy with rfl | rfl <;> cases ez
    | _ => exact hz.elim
theorem GRel.bare (h : GRel g x D G) (b : AllBare D) : AllBare G := fun y hy => by
  obtain ⟨i, hi, e⟩ := Array.mem_iff_getElem.mp hy
  have e1 : G[i]? = some y := by rw [Array.getElem?_eq_getElem hi, e]
  have hd : i < D.size := by rw [h.size]; exact hi
  have e2 : D[i]? = some D[i] := Array.getElem?_eq_getElem hd
  have hb := b _ (Array.getElem_mem hd)
  rcases h.at_ i _ e2 with ⟨e3, _⟩ | ⟨z, e3, ez, _⟩
  · rw [e1] at e3; cases e3; exact hb
  · rw [e1] at e3; cases e3
    rw [ez, dumb_bare] at hb
    exact hb
end
theorem GRel.wake {M : Model} {g : Nat} {x : GenState} {D G : Array GenState} (h : GRel g x D G) {i : Nat} {k₀ : Resume → Sem PySem.Fin} {l₀ : List Value} {c₀ : Code} {p₀ : Pos} {fs : List Frame} {cl : Bool} {Γ : Ctx} {p : Pos} {r : Resume} {s s' : Shared} {e : End}
    (e0 : D[i]? = some (.suspended k₀ l₀ c₀ p₀ fs cl)) (hr : Runs M Γ p (k₀ r) fs s e s') : i ≠ g ∧ G[i]? = some (.suspended k₀ l₀ c₀ p₀ fs cl) ∧ splitAtGen fs = none := by
  refine ⟨?_, ?_⟩
  · rintro rfl
    have := h.hereD
    rw [e0] at this
    have hs := h.sl
    cases x with
    | suspended k l c p fs cl =>
      simp only [dumb, Option.some.injEq, GenState.suspended.injEq] at this
      obtain ⟨rfl, _⟩ := this
      exact no_unsup hr
    | _ => exact hs.elim
  · rcases h.at_ _ _ e0 with ⟨e', ho⟩ | ⟨z, e', ez, hz⟩
    · exact ⟨e', ho _ _ _ _ _ _ rfl⟩
    · cases z with
      | suspended k l c p fs cl =>
        simp only [dumb, GenState.suspended.injEq] at ez
        obtain ⟨rfl, _⟩ := ez
        exact (no_unsup hr).elim
      | _ => exact hz.elim
/-- what a run ends with is good: a sleeper's frames are its own -/
def EndOk : End → Prop
  | .susp _ _ _ _ _ _ fs => splitAtGen fs = none
  | .ret _ => True
theorem split_append : ∀ {a b : List Frame}, splitAtGen a = none → splitAtGen b = none → splitAtGen (a ++ b) = none
  | [], b, _, h => h
  | .ret k h g l c p kp :: a, b, ha, hb => by
    have ha' : splitAtGen a = none := by
      simp only [splitAtGen, Option.map_eq_none_iff] at ha
      exact ha
    simp only [List.cons_append, splitAtGen, split_append ha' hb, Option.map_none]
  | .gen .. :: a, b, ha, hb => by simp [splitAtGen] at ha
theorem endOk_gen {e : End} (h : EndOk e) : ∀ k l c p fs cl, e.genState = .suspended k l c p fs cl → splitAtGen fs = none := by
  intro k l c p fs cl he
  cases e with
  | ret r => cases he
  | susp v g0 l0 k0 c0 p0 fs0 =>
    simp only [End.genState, GenState.suspended.injEq] at he
    obtain ⟨_, _, _, _, rfl, _⟩ := he
    exact h
/-- THE TWO RUN ALIKE -/
theorem lock {M : Model} {g : Nat} {x : GenState} {Γ : Ctx} {p : Pos} {t : Sem PySem.Fin} {fs : List Frame} {s s' : Shared} {e : End} (h : Runs M Γ p t fs s e s') :
    splitAtGen fs = none → ∀ G, GRel g x s.gens G → ∃ G', Runs M Γ p t fs { s with gens := G } e { s' with gens := G' } ∧ GRel g x s'.gens G' ∧ EndOk e := by
  induction h with
  | done => exact fun _ G r => ⟨G, .done, r, trivial⟩
  | raise => exact fun _ G r => ⟨G, .raise, r, trivial⟩
  | again q _ ih => intro hf G r; obtain ⟨G', h1, h2, h3⟩ := ih rfl G r; exact ⟨G', .again q h1, h2, h3⟩
  | rule _ ih => intro hf G r; obtain ⟨G', h1, h2, h3⟩ := ih rfl G r; exact ⟨G', .rule h1, h2, h3⟩
  | «at» _ ih => intro hf G r; obtain ⟨G', h1, h2, h3⟩ := ih rfl G r; exact ⟨G', .at h1, h2, h3⟩
  | load e _ ih => intro hf G r; obtain ⟨G', h1, h2, h3⟩ := ih rfl G r; exact ⟨G', .load e h1, h2, h3⟩
  | update e _ ih => intro hf G r; obtain ⟨G', h1, h2, h3⟩ := ih rfl G r; exact ⟨G', .update e h1, h2, h3⟩
  | loadIfAlive _ ih => intro hf G r; obtain ⟨G', h1, h2, h3⟩ := ih rfl G r; exact ⟨G', .loadIfAlive h1, h2, h3⟩
  | point _ ih => intro hf G r; obtain ⟨G', h1, h2, h3⟩ := ih rfl G r; exact ⟨G', .point h1, h2, h3⟩
  | alloc _ ih => intro hf G r; obtain ⟨G', h1, h2, h3⟩ := ih rfl G r; exact ⟨G', .alloc h1, h2, h3⟩
  | fresh _ ih => intro hf G r; obtain ⟨G', h1, h2, h3⟩ := ih rfl G r; exact ⟨G', .fresh h1, h2, h3⟩
  | ask _ ih => intro hf G r; obtain ⟨G', h1, h2, h3⟩ := ih rfl G r; exact ⟨G', .ask h1, h2, h3⟩
  | choose q _ ih => intro hf G r; obtain ⟨G', h1, h2, h3⟩ := ih rfl G r; exact ⟨G', .choose q h1, h2, h3⟩
  | os _ ih => intro hf G r; obtain ⟨G', h1, h2, h3⟩ := ih rfl G r; exact ⟨G', .os h1, h2, h3⟩
  | handled _ ih => intro hf G r; obtain ⟨G', h1, h2, h3⟩ := ih rfl G r; exact ⟨G', .handled h1, h2, h3⟩
  | genState e _ ih =>
    intro hf G r
    obtain ⟨z, ez, es⟩ := r.alike e
    obtain ⟨G', h1, h2, h3⟩ := ih rfl G r
    rw [es] at h1
    exact ⟨G', .genState ez h1, h2, h3⟩
  | stack _ ih => intro hf G r; obtain ⟨G', h1, h2, h3⟩ := ih rfl G r; exact ⟨G', .stack h1, h2, h3⟩
  | thread _ ih => intro hf G r; obtain ⟨G', h1, h2, h3⟩ := ih rfl G r; exact ⟨G', .thread h1, h2, h3⟩
  | newGen _ ih =>
    intro hf G r
    obtain ⟨G', h1, h2, h3⟩ := ih rfl (G.push _) (r.grow _)
    refine ⟨G', .newGen ?_, h2, h3⟩
    rw [← r.size]
    exact h1
  | call _ _ ih1 ih2 =>
    intro hf G r
    obtain ⟨G1, h1, h2, h3⟩ := ih1 rfl G r
    obtain ⟨G2, k1, k2, k3⟩ := ih2 rfl G1 h2
    exact ⟨G2, .call h1 k1, k2, k3⟩
  | callSusp _ ih =>
    intro hf G r
    obtain ⟨G1, h1, h2, h3⟩ := ih rfl G r
    exact ⟨G1, .callSusp h1, h2, split_append h3 rfl⟩
  | yield => exact fun _ G r => ⟨G, .yield, r, rfl⟩
  | resumeFresh e _ q _ ih1 ih2 =>
    intro hf G r
    obtain ⟨e', hne⟩ := r.atFresh e
    obtain ⟨G1, h1, h2, h3⟩ := ih1 rfl _ (r.set (y := .running) hne fun _ _ _ _ _ _ z => by cases z)
    obtain ⟨G2, k1, k2, k3⟩ := ih2 rfl _ (h2.set (y := End.genState _) hne (endOk_gen h3))
    exact ⟨G2, .resumeFresh e' h1 q k1, k2, k3⟩
  | resumeSuspended e hr q _ ih1 ih2 =>
    intro hf G r
    obtain ⟨hne, e', ho⟩ := r.wake e hr
    obtain ⟨G1, h1, h2, h3⟩ := ih1 ho _ (r.set (y := .running) hne fun _ _ _ _ _ _ z => by cases z)
    obtain ⟨G2, k1, k2, k3⟩ := ih2 rfl _ (h2.set (y := End.genState _) hne (endOk_gen h3))
    exact ⟨G2, .resumeSuspended e' h1 q k1, k2, k3⟩
  | resumeJustStarted e hv _ ih =>
    intro hf G r
    obtain ⟨G', h1, h2, h3⟩ := ih rfl G r
    exact ⟨G', .resumeJustStarted (r.atFresh e).1 hv h1, h2, h3⟩
  | resumeThrowFresh e _ ih =>
    intro hf G r
    obtain ⟨e', hne⟩ := r.atFresh e
    obtain ⟨G', h1, h2, h3⟩ := ih rfl _ (r.set (y := .finished) hne fun _ _ _ _ _ _ z => by cases z)
    exact ⟨G', .resumeThrowFresh e' h1, h2, h3⟩
  | resumeRunning e _ ih =>
    intro hf G r
    obtain ⟨G', h1, h2, h3⟩ := ih rfl G r
    exact ⟨G', .resumeRunning (r.plain e (.inl rfl)) h1, h2, h3⟩
  | resumeFinished e _ ih =>
    intro hf G r
    obtain ⟨G', h1, h2, h3⟩ := ih rfl G r
    exact ⟨G', .resumeFinished (r.plain e (.inr rfl)) h1, h2, h3⟩
  | segRet _ _ ih1 ih2 =>
    intro hf G r
    simp only [splitAtGen, Option.map_eq_none_iff] at hf
    obtain ⟨G1, h1, h2, h3⟩ := ih1 rfl G r
    obtain ⟨G2, k1, k2, k3⟩ := ih2 hf G1 h2
    exact ⟨G2, .segRet h1 k1, k2, k3⟩
  | segGen _ _ ih1 ih2 => intro hf; simp [splitAtGen] at hf
  | segSuspOut hs _ ih =>
    intro hf G r
    obtain ⟨G1, h1, h2, h3⟩ := ih rfl G r
    exact ⟨G1, .segSuspOut hs h1, h2, split_append h3 hs⟩
  | segSuspGen hs _ _ _ ih1 ih2 => intro hf; rw [hs] at hf; cases hf

section
variable {M : Model} {g : Nat} {x : GenState}
open Sem (wp)
theorem wp_lock {α : Type} {Γ : Ctx} (t : Sem α) : ∀ (Q : α → Pos → Shared → Prop) (E : Value → Pos → Shared → Prop) (p : Pos) (s : Shared) (G : Array GenState), GRel g x s.gens G → wp M Γ t Q E p s →
    wp M Γ t (fun a p' s' => ∃ D, GRel g x D s'.gens ∧ Q a p' { s' with gens := D }) (fun e p' s' => ∃ D, GRel g x D s'.gens ∧ E e p' { s' with gens := D }) p { s with gens := G } := by
  induction t with
  | pure a => intro Q E p s G r h; exact ⟨s.gens, r, h⟩
  | raise e => intro Q E p s G r h; exact ⟨s.gens, r, h⟩
  | unsupported _ => intro Q E p s G _ h; exact h
  | finish _ => intro Q E p s G _ h; exact h
  | rule _ k ih => intro Q E p s G r h; exact ih () Q E p s G r h
  | «at» p' k ih => intro Q E p s G r h; exact ih () Q E p' s G r h
  | load a _ k ih => intro Q E p s G r h; obtain ⟨o, ho, h⟩ := h; exact ⟨o, ho, ih o Q E p s G r h⟩
  | update a _ f k ih => intro Q E p s G r h; exact ⟨h.1, ih () Q E p { s with heap := s.heap.update a f } G r h.2⟩
  | loadIfAlive a k ih => intro Q E p s G r h; exact ih _ Q E p s G r h
  | point _ k ih => intro Q E p s G r h; exact ih () Q E p s G r h
  | register _ _ => intro Q E p s G _ h; exact h
  | alloc o k ih => intro Q E p s G r h; exact ih _ Q E p { s with heap := s.heap.push o } G r h
  | fresh k ih => intro Q E p s G r h; exact ih _ Q E p { s with toks := s.toks + 1 } G r h
  | ask k ih => intro Q E p s G r h; exact ih _ Q E p s G r h
  | choose src m k ih => intro Q E p s G r h; exact ⟨h.1, ih _ Q E p { s with drawn := s.drawn.bump src } G r h.2⟩
  | os q _ k ih => intro Q E p s G r h; exact ih _ Q E p { s with os := (Os.step s.os q).1 } G r h
  | call c hd _ _ k ih =>
    intro Q E p s G r h
    obtain ⟨res, s', hr, h⟩ := h
    obtain ⟨G', h1, h2, _⟩ := lock hr rfl G r
    exact ⟨res, _, h1, ih res Q E p s' G' h2 h⟩
  | handled own k ih => intro Q E p s G r h; exact ih _ Q E p s G r h
  | genState g' k ih =>
    intro Q E p s G r h
    obtain ⟨st, hs, h⟩ := h
    obtain ⟨z, ez, es⟩ := r.alike hs
    refine ⟨z, ez, ?_⟩
    rw [← es]
    exact ih _ Q E p s G r h
  | newGen c k ih =>
    intro Q E p s G r h
    have := ih s.gens.size Q E p { s with gens := s.gens.push (.fresh c) } (G.push (.fresh c)) (r.grow c) h
    show wp M Γ (k G.size) _ _ p _
    rw [← r.size]
    exact this
  | resume g' rr _ k ih =>
    intro Q E p s G r h
    obtain ⟨res, s', hw, h⟩ := h
    have key : ∃ G', Wakes M Γ p g' rr { s with gens := G } res { s' with gens := G' } ∧ GRel g x s'.gens G' := by
      unfold Wakes at hw
      split at hw
      · exact hw.elim
      · rename_i c e
        obtain ⟨e', hne⟩ := r.atFresh e
        unfold Wakes
        rw [show ({ s with gens := G } : Shared).gens[g']? = some (.fresh c) from e']
        split at hw
        · obtain ⟨e₁, s₁, hr, hq, rfl, rfl⟩ := hw
          obtain ⟨G1, h1, h2, h3⟩ := lock hr rfl _ (r.set (y := .running) hne fun _ _ _ _ _ _ z => by cases z)
          exact ⟨G1.setIfInBounds g' e₁.genState, ⟨e₁, _, h1, hq, rfl, rfl⟩, h2.set hne (endOk_gen h3)⟩
        · obtain ⟨rfl, rfl⟩ := hw
          exact ⟨G, ⟨rfl, rfl⟩, r⟩
        · obtain ⟨rfl, rfl⟩ := hw
          exact ⟨G.setIfInBounds g' .finished, ⟨rfl, rfl⟩, r.set hne fun _ _ _ _ _ _ z => by cases z⟩
      · rename_i k₀ l₀ c₀ p₀ fs cl e
        obtain ⟨e₁, s₁, hr, hq, rfl, rfl⟩ := hw
        obtain ⟨hne, e', ho⟩ := r.wake e hr
        obtain ⟨G1, h1, h2, h3⟩ := lock hr ho _ (r.set (y := .running) hne fun _ _ _ _ _ _ z => by cases z)
        refine ⟨G1.setIfInBounds g' e₁.genState, ?_, h2.set hne (endOk_gen h3)⟩
        unfold Wakes
        rw [show ({ s with gens := G } : Shared).gens[g']? = some (.suspended k₀ l₀ c₀ p₀ fs cl) from e']
        exact ⟨e₁, _, h1, hq, rfl, rfl⟩
      · rename_i e
        obtain ⟨rfl, rfl⟩ := hw
        refine ⟨G, ?_, r⟩
        unfold Wakes
        rw [show ({ s' with gens := G } : Shared).gens[g']? = some .running from r.plain e (.inl rfl)]
        exact ⟨rfl, rfl⟩
      · rename_i e
        obtain ⟨rfl, rfl⟩ := hw
        refine ⟨G, ?_, r⟩
        unfold Wakes
        rw [show ({ s' with gens := G } : Shared).gens[g']? = some .finished from r.plain e (.inr rfl)]
        exact ⟨rfl, rfl⟩
    obtain ⟨G', h1, h2⟩ := key
    exact ⟨res, _, h1, ih res Q E p s' G' h2 h⟩
  | yield _ _ _ _ => intro Q E p s G _ h; exact h
  | stack k ih => intro Q E p s G r h; exact ih _ Q E p s G r h
  | fork _ _ => intro Q E p s G _ h; exact h
  | thread k ih => intro Q E p s G r h; exact ih _ Q E p s G r h
  | await _ _ _ _ _ => intro Q E p s G _ h; exact h

/-- the table with every sleeper made dumb -/
def dumbs (G : Array GenState) : Array GenState := G.map dumb
theorem dumbs_at {G : Array GenState} {i : Nat} : (dumbs G)[i]? = G[i]?.map dumb := by unfold dumbs; simp
theorem dumbs_rel {G : Array GenState} (h : G[g]? = some x) (hs : sleeps x) : GRel g x (dumbs G) G where
  size := by unfold dumbs; simp
  at_ := fun i y e => by
    rw [dumbs_at] at e
    cases ez : G[i]? with
    | none => rw [ez] at e; cases e
    | some z =>
      rw [ez] at e
      simp only [Option.map_some, Option.some.injEq] at e
      subst e
      cases z with
      | suspended k l c p fs cl => exact .inr ⟨_, rfl, rfl, trivial⟩
      | _ => exact .inl ⟨rfl, fun _ _ _ _ _ _ z => by cases z⟩
  here := h
  hereD := by rw [dumbs_at, h]; rfl
  sl := hs
theorem dumbs_bare {G : Array GenState} (h : AllBare G) : AllBare (dumbs G) := fun y hy => by
  unfold dumbs at hy
  obtain ⟨z, hz, rfl⟩ := Array.mem_map.mp hy
  rw [dumb_bare]; exact h z hz
/-- THE RULE: run it with the sleepers dumb; the sleeper stays -/
theorem asleep {α : Type} {A : Around} {t : Sem α} {Q : α → Shared → Prop} {E : Value → Shared → Prop} {s : Shared} (hx : s.gens[g]? = some x) (hs : sleeps x) (h : wpAny M A t Q E { s with gens := dumbs s.gens }) :
    wpAny M A t (fun a s' => s'.gens[g]? = some x ∧ ∃ D, (AllBare D → AllBare s'.gens) ∧ Q a { s' with gens := D }) (fun e s' => s'.gens[g]? = some x ∧ ∃ D, (AllBare D → AllBare s'.gens) ∧ E e { s' with gens := D }) s := by
  intro Γ p hΓ
  have := wp_lock (M := M) t _ _ p { s with gens := dumbs s.gens } s.gens (dumbs_rel hx hs) (h Γ p hΓ)
  refine Sem.wp_mono _ _ t (fun a p' s' => ?_) (fun e p' s' => ?_) _ _ this
  · rintro ⟨D, r, q⟩
    exact ⟨r.here, D, r.bare, q⟩
  · rintro ⟨D, r, q⟩
    exact ⟨r.here, D, r.bare, q⟩
end
end Tw
/-! Ggn: a generator walked by a comprehension (own rule: the walk's state may lie in the table of generators). -/
namespace Tw
open PySem PyProof.Rows L2 GenW

section
variable {X : Cx} {pins : List (Addr × Obj)} {σ : L2.St} {H : Hp} {s : Shared}
theorem regen {D : Array GenState} (I : Inv X pins σ H { s with gens := D }) (hb : AllBare D → AllBare s.gens) : Inv X pins σ H s :=
  ⟨I.ok, I.os, hb I.bare, I.base, I.loc, I.cell, I.free, I.freeC, I.pin, I.hok, I.len⟩
theorem dull (I : Inv X pins σ H s) : Inv X pins σ H { s with gens := dumbs s.gens } :=
  ⟨I.ok, I.os, dumbs_bare I.bare, I.base, I.loc, I.cell, I.free, I.freeC, I.pin, I.hok, I.len⟩
end
/-- what runs while x sleeps at g -/
theorem thnZ {α : Type} {M : Model} {A : Around} {t : Sem α} {Q Q' : α → Shared → Prop} {E : Value → Shared → Prop} {s : Shared} {g : Nat} {x : GenState} (hx : s.gens[g]? = some x) (hs : sleeps x)
    (h : wpAny M A t Q (fun _ _ => False) { s with gens := dumbs s.gens })
    (hQ : ∀ a s' D, (AllBare D → AllBare s'.gens) → s'.gens[g]? = some x → Q a { s' with gens := D } → Q' a s') : wpAny M A t Q' E s :=
  wpAny_mono (asleep hx hs h) (fun a s' ⟨h1, D, h2, h3⟩ => hQ a s' D h2 h1 h3) fun e s' ⟨_, _, _, h3⟩ => h3.elim

/-- a walk whose state may lie in the table of generators; fp: the objects that are its own at this turn; stk: the frames it is woken from -/
structure TurnG (P : Program) (w : World) (K : PySem.W.Frag) (mg : Str → Option Value) (base : Heap) (tg : Expr) (J : It) (it : Addr) (k : Nat) (stk : List Env) (tn : Nat → List Addr → Heap → Array GenState → Prop) : Prop where
  obj : ∀ i fp h G, tn i fp h G → ∀ b ∈ fp, ∃ o, h.get? b = some o ∧ ∀ v, o.data ≠ .cell v
  keep : ∀ i fp h h' G, tn i fp h G → (∀ b ∈ fp, ∀ o, h.get? b = some o → h'.get? b = some o) → tn i fp h' G
  asl : ∀ i fp h G, tn (i + 1) fp h G → ∃ (g : Nat) (x : GenState), G[g]? = some x ∧ sleeps x ∧ ∀ G' : Array GenState, G'[g]? = some x → tn (i + 1) fp h G'
  item : ∀ (X : Cx), X.prog = P → X.w = w → X.K = K → X.mg = mg → X.base = base → X.stack = stk → X.calm = true → Room k X.A → ∀ (i : Nat) (fp : List Addr) (pins : List (Addr × Obj)) (s : Shared) (σ : L2.St) (H : Hp),
    Inv X pins σ H s → (∀ b ∈ fp, FpOk X pins H b) → tn i fp s.heap s.gens → J.go i H →
    wpAny (model P w) X.A (pyNext (.ref it)) (fun r s1 => ∃ u, r = some u ∧
      wpAny (model P w) X.A (letOwnedTupleGo tg (.ref it) u) (fun _ s2 => ∃ x H' fp', Inv X pins σ H' s2 ∧ RelV x u ∧ J.yld i H x H' ∧ tn (i + 1) fp' s2.heap s2.gens ∧ ∀ b ∈ fp', FpOk X pins H' b) (fun _ _ => False) s1) (fun _ _ => False) s
  done : ∀ (X : Cx), X.prog = P → X.w = w → X.K = K → X.mg = mg → X.base = base → X.stack = stk → X.calm = true → Room k X.A → ∀ (i : Nat) (fp : List Addr) (pins : List (Addr × Obj)) (s : Shared) (σ : L2.St) (H : Hp),
    Inv X pins σ H s → (∀ b ∈ fp, FpOk X pins H b) → tn i fp s.heap s.gens → J.stop i H →
    wpAny (model P w) X.A (pyNext (.ref it)) (fun r s1 => r = none ∧ ∃ H', Same H H' ∧ Inv X pins σ H' s1) (fun _ _ => False) s
  self : ∀ (A : Around) (i : Nat) (fp : List Addr) (s : Shared) (Q : Value → Shared → Prop) (E : Value → Shared → Prop), tn i fp s.heap s.gens → Q (.ref it) s → wpAny (model P w) A (pyIter (.ref it)) Q E s
/-- it has come -/
def PIEG (X : Cx) (k : Nat) (pins : List (Addr × Obj)) (σ : L2.St) (tg : Expr) (R : It → Hp → Prop) (itv : Value) (s2 : Shared) : Prop :=
  ∃ (it : Addr) (fp : List Addr) (tn : Nat → List Addr → Heap → Array GenState → Prop) (J : It) (H' : Hp), itv = .ref it ∧ Inv X pins σ H' s2 ∧ TurnG X.prog X.w X.K X.mg X.base tg J it k X.stack tn ∧ tn 0 fp s2.heap s2.gens ∧
    (∀ b ∈ fp, FpOk X pins H' b) ∧ R J H'
structure PIG (X : Cx) (k : Nat) (tg iter : Expr) (wi : TI) : Prop where
  run : ∀ (pins : List (Addr × Obj)) (s : Shared) (σ : L2.St) (H : Hp) (R : It → Hp → Prop), Inv X pins σ H s → wi σ H R →
    wpAny (model X.prog X.w) X.A (eval iter X.env) (fun v s1 => wpAny (model X.prog X.w) X.A (pyIter v) (PIEG X k pins σ tg R) X.xe s1) X.xe s

section
variable {X : Cx}
/-- as tLc; at the end there may be more than was known -/
def tLcG (wi : TI) (g : TG) (tt : TT) (te : TE) (vs : List Nat) : TE := fun σ H Q => wi σ H fun J H1 => ∀ D, H1 D = none → ∃ W : Nat → Nat → Hp → Prop, (∃ m, W 0 m (upd H1 D (.lst []))) ∧ ∀ i m H, W i m H →
  (J.stop i H ∧ ∀ H', Same H H' → Q (.ref D) H') ∨ (J.go i H ∧ ∃ Nx : Hp → Prop, (∀ H', Nx H' → ∃ m', m' < m ∧ W (i + 1) m' H') ∧ ∀ x H', J.yld i H x H' → g x (wipe σ vs) H' fun σ2 H2 => wipe σ2 vs = wipe σ vs ∧ tt σ2 H2 fun b H3 =>
    if b = true then te σ2 H3 fun y H4 => ∃ acc, H4 D = some (.lst acc) ∧ acc.length < sizeLine ∧ Nx (upd H4 D (.lst (acc ++ [y]))) else Nx H3)
theorem pe_lcG {k : Nat} {elt tg iter : Expr} {ifs : List Expr} {scope : Scope} {own : List (Str × Nat)} {pos : Pos} {wi : TI} {g : TG} {tt : TT} {te : TE} (hc : X.calm = true) (hr : Room k X.A) (hN : X.N.Nodup) (hi : PIG X k tg iter wi) (ok : BlkOk X.N X.env.scope scope own)
    (hg : ∀ s H C cl fp, PG (X.blk s H scope (compEnvC scope cl C X.env) fp) tg g) (ht : ∀ s H C cl fp, PTs (X.blk s H scope (compEnvC scope cl C X.env) fp) ifs tt)
    (he : ∀ s H C cl fp, PE (X.blk s H scope (compEnvC scope cl C X.env) fp) elt te) (hs : ∀ x, foldedSetIterable iter X.env x = pure x := by intro _; rfl) :
    PE X (.ListComp elt [⟨tg, iter, ifs, 0⟩] scope pos) (tLcG wi g tt te (own.map (·.2))) := by
  refine ⟨fun pins s σ H Q I h => ?_⟩
  have closed : ∀ y ∈ scope.names, y.2 = .free → ∃ c, X.env.cells.lookup y.1 = some c := fun y hy e =>
    (ok.free y hy e).elim (fun z => I.ok.has _ (.inl z)) fun z => I.ok.has _ (.inr z)
  rw [eval_ListComp]
  refine wpAny_comprehension_free (use := none) rfl hs (closure_ok closed) ok.kind (fun y hy e => (ok.uniq y hy).trans (by rw [e])) (thn (hi.run pins s σ H _ I h) fun xv s1 hx => thn hx fun itv s2 h2 => ?_)
  obtain ⟨it, fp, tn, J, H2, rfl, I2, T, st2, f2, q⟩ := h2
  refine wpAny_newObj_type (newEnv_comp ?_) (by show 0 ≤ sizeLine; decide)
  -- the new list at D
  obtain ⟨D, hD⟩ : ∃ D, s2.heap.objs.size = D := ⟨_, rfl⟩
  obtain ⟨W, ⟨m0, w0⟩, turn⟩ := q D (I2.hok.fresh (Nat.le_of_eq hD))
  generalize e3 : ({ s2 with heap := s2.heap.push { cls := .type "list", data := .seq ([] : List Value).toArray } } : Shared) = s3
  have hp3 : s3.heap = s2.heap.push { cls := .type "list", data := .seq ([] : List Value).toArray } := by rw [← e3]
  have hg3 : s3.gens = s2.gens := by rw [← e3]
  have kp3 : ∀ b o, s2.heap.get? b = some o → s3.heap.get? b = some o := fun b o e => by rw [hp3]; exact Heap.get?_push_of_some _ e
  have I3 : Inv X pins σ (upd H2 D (.lst [])) s3 := by
    rw [← e3]
    exact I2.laid (t' := s2.toks) (fun b o e => Heap.get?_push_of_some _ e) (Nat.le_of_eq hD) ⟨Nat.zero_le _, [], 0, .nil, by rw [← hD]; exact Heap.get?_push_size _ rfl⟩
  have f3 : ∀ b ∈ fp, FpOk X pins (upd H2 D (.lst [])) b ∧ b < s3.heap.objs.size := fun b hb => by
    obtain ⟨o, e, _⟩ := T.obj _ _ _ _ st2 b hb
    have hlt := Heap.lt_size e
    exact ⟨⟨(upd_ne (by rw [← hD]; exact Nat.ne_of_lt hlt)).trans (f2 b hb).1, (f2 b hb).2⟩, Heap.lt_size (kp3 b o e)⟩
  have st3 : tn 0 fp s3.heap s3.gens := by rw [hg3]; exact T.keep _ _ _ _ _ st2 fun b _ o e => kp3 b o e
  have I4 := block_start I3 ok hN f3
  generalize eH : upd H2 D (.lst []) = H3 at I3 I4 w0 f3
  generalize eS : ({ s3 with heap := pushCells (s3.heap.push { cls := .type "dict", data := .dict #[] }) scope.names } : Shared) = s4 at I4
  have st4 : tn 0 fp s4.heap s4.gens := by
    rw [← eS]
    exact T.keep _ _ _ _ _ st3 fun b _ o e => pushCells_keeps _ _ _ _ (Heap.get?_push_of_some _ e)
  have pg := hg s3 H3 s3.heap.objs.size (cellsFrom (s3.heap.objs.size + 1) scope.names (cloFrom X.env.cells scope.names [])) fp
  have pt := ht s3 H3 s3.heap.objs.size (cellsFrom (s3.heap.objs.size + 1) scope.names (cloFrom X.env.cells scope.names [])) fp
  have pe := he s3 H3 s3.heap.objs.size (cellsFrom (s3.heap.objs.size + 1) scope.names (cloFrom X.env.cells scope.names [])) fp
  generalize eC : compEnvC scope (cellsFrom (s3.heap.objs.size + 1) scope.names (cloFrom X.env.cells scope.names [])) s3.heap.objs.size X.env = ce at I4 pg pt pe
  have cL : ce.locals = s3.heap.objs.size := by subst eC; rfl
  have loop : codeAny (model X.prog X.w) X.A (.compLoop (.ListComp elt [⟨tg, iter, ifs, 0⟩] scope pos) 0 (.ref it) (.ref D) ce) (compPost (model X.prog X.w) X.A X.xe none (EP X pins σ Q) (.ref D) s3.heap.objs.size) s4 := by
    have f4 : ∀ b ∈ fp, FpOk (X.blk s3 H3 scope ce fp) [] H3 b := fun b hb => ⟨(f3 b hb).1.1, (I4.ok.exf b hb).1, I4.ok.exfs b hb, .inl hb, fun x c e => (I4.ok.exf b hb).2 x c e, fun p hp => absurd (show p ∈ ([] : List (Addr × Obj)) ++ [] from hp) (by simp)⟩
    refine compLoop_any (fun n s' => ∃ i fp' H', Inv (X.blk s3 H3 scope ce fp) [] (wipe σ (own.map (·.2))) H' s' ∧ tn i fp' s'.heap s'.gens ∧ (∀ b ∈ fp', FpOk (X.blk s3 H3 scope ce fp) [] H' b) ∧ W i n H') ?_ m0 ⟨0, fp, H3, I4, st4, f4, w0⟩
    rintro n s5 ⟨i, fp5, H5, I5, st5, n5, w5⟩
    rcases turn i n H5 w5 with ⟨stop, qq⟩ | ⟨go, Nx, hNx, step⟩
    · refine thnF (T.done (X.blk s3 H3 scope ce fp) rfl rfl rfl rfl rfl rfl hc hr i fp5 [] s5 _ H5 I5 n5 st5 stop) fun r s6 ⟨er, H6, sm6, I6⟩ => ?_
      subst er
      have I7 : Inv X pins σ H6 s6 := I3.call' (ch := fp) I6.os I6.base I6.hok I6.bare fun b hb =>
        let z := (f3 b hb).1.2; ⟨z.2.2.1, z.1, z.2.2.2.1, z.2.2.2.2⟩
      have nC : H6 s3.heap.objs.size = none := by
        rw [← cL]; exact I6.free
      obtain ⟨m, hn, _⟩ := I6.loc
      have hn : s6.heap.Ns s3.heap.objs.size m := by rw [← cL]; exact hn
      refine ⟨m, hn, fun h'' sb => ?_⟩
      obtain ⟨z0, z1, _, z3, z4, z5⟩ := I3.fpOk (Nat.le_refl _) nC
      exact ⟨.ref D, H6, I7.turned (t' := s6.toks) (fun b o hb e => (sb.2 b hb).trans e) z0 z1 z3 z4 z5, rfl, qq _ sm6⟩
    · refine thnF (T.item (X.blk s3 H3 scope ce fp) rfl rfl rfl rfl rfl rfl hc hr i fp5 [] s5 _ H5 I5 n5 st5 go) fun r s6 ⟨u, er, h6⟩ => ?_
      subst er
      refine thnF h6 fun _ s7 ⟨x, H7, fp7, I7, r7, y7, st7, n7⟩ => ?_
      obtain ⟨gg, z, hz, sz, kz⟩ := T.asl _ _ _ _ st7
      have J7 := I7.pinned n7 (T.obj _ _ _ _ st7)
      refine thnZ hz sz (pg.run _ _ _ H7 x u _ (dull J7) r7 (step x H7 y7)) fun _ s8 D8 b8 hz8 ⟨σ8, H8, I8, hw8, q8⟩ => ?_
      replace I8 := regen I8 b8
      refine thnZ hz8 sz (pt.run _ _ σ8 H8 _ (dull I8) q8) fun b s9 D9 b9 hz9 ⟨H9, I9, q9⟩ => ?_
      replace I9 := regen I9 b9
      have fin : ∀ {s' : Shared} {H' : Hp}, s'.gens[gg]? = some z → Inv (X.blk s3 H3 scope ce fp) ([] ++ pinsAt fp7 s7.heap) σ8 H' s' → Nx H' →
          ∃ m, m < n ∧ ∃ i fp' H', Inv (X.blk s3 H3 scope ce fp) [] (wipe σ (own.map (·.2))) H' s' ∧ tn i fp' s'.heap s'.gens ∧ (∀ b ∈ fp', FpOk (X.blk s3 H3 scope ce fp) [] H' b) ∧ W i m H' := fun {s' H'} hz' I' nx => by
        obtain ⟨m', hm, w'⟩ := hNx H' nx
        have pin' : ∀ b ∈ fp7, ∀ o, s7.heap.get? b = some o → s'.heap.get? b = some o ∧ H' b = none := fun b hb o e =>
          let y := I'.pin (b, o) (List.mem_append_right _ (List.mem_append_right _ (mem_pinsAt hb e)))
          ⟨y.1, y.2.1⟩
        have hl : (wipe σ (own.map (·.2))).length = σ8.length := by rw [← hw8, wipe_length]
        refine ⟨m', hm, i + 1, fp7, H', (I'.unpinned (pins := [])).weak hl (fun j v e => ?_), ?_, fun b hb => ?_, w'⟩
        · rw [← hw8] at e
          exact (wipe_some e).1
        · exact T.keep _ _ _ _ _ (kz _ hz') fun b hb o e => (pin' b hb o e).1
        · obtain ⟨o, e, _⟩ := T.obj _ _ _ _ st7 b hb
          exact ⟨(pin' b hb o e).2, (n7 b hb).2⟩
      cases b with
      | false =>
        simp only [Bool.false_eq_true, if_false] at q9 ⊢
        exact fin hz9 I9 q9
      | true =>
        simp only [if_true] at q9 ⊢
        refine thnZ hz9 sz (pe.run _ _ σ8 H9 _ (dull I9) q9) fun y s10 D10 b10 hz10 ⟨yv, H10, I10, r10, acc, hD10, hz10', nx⟩ => ?_
        replace I10 := regen I10 b10
        exact thnZ hz10 sz (app_ok (X := X.blk s3 H3 scope ce fp) (dull I10) hD10 hz10' r10 fun s11 I11 => I11) fun _ s11 D11 b11 hz11 I11 => fin hz11 (regen I11 b11) nx
  have hh := codeAny_compStart_list loop (T.self X.A 0 _ _ _ _ st4 loop)
  rw [hD]
  rw [← eC] at hh
  exact hh
end
end Tw
/-! Gsp: one waking of a generator: from where it stands to its next yield, or to its end. -/
namespace Tw
open PySem PyProof.Rows L2 GenW

/-- the code's run ends, and T holds of the end -/
def Step (M : Model) (A : Around) (T : End → Shared → Prop) (c : Code) (t : Sem PySem.Fin) (fs : List Frame) (s : Shared) : Prop :=
  ∀ Γ p, Γ.code = c → Γ.Woken A → ∃ e s', Runs M Γ p t fs s e s' ∧ T e s'
section
variable {M : Model} {A : Around} {T : End → Shared → Prop} {c : Code} {fs : List Frame} {s : Shared} {env : Env}
abbrev Nx : Value → Shared → Prop := fun _ _ => False
theorem stp_wrap {α : Type} {m : Sem α} {K : α → Sem PySem.Fin} {J : Value → Sem PySem.Fin} {gd : Bool → Bool} {lv : List Value → List Value} (h : wpAny M (A.over c fs) m (fun a s' => Step M A T c (K a) fs s') Nx s) : Step M A T c (m.wrap K J gd lv) fs s := by
  rintro Γ p rfl hΓ
  exact runs_wrap_of_wp K J gd lv m (h (Γ.over fs) p (hΓ.over fs)) (fun a p' s' z => z Γ p' rfl hΓ) fun _ _ _ z => z.elim
theorem stp_bindw {α β : Type} {m : Sem α} {f : α → Sem β} {K : β → Sem PySem.Fin} {J : Value → Sem PySem.Fin} {gd : Bool → Bool} {lv : List Value → List Value}
    (h : wpAny M (A.over c fs) m (fun a s' => Step M A T c ((f a).wrap K J gd lv) fs s') Nx s) : Step M A T c ((m >>= f).wrap K J gd lv) fs s := by
  rw [Sem.bind_eq_wrap', Sem.wrap_wrap]
  exact stp_wrap h
theorem stp_bind {α : Type} {m : Sem α} {K : α → Sem PySem.Fin} (h : wpAny M (A.over c fs) m (fun a s' => Step M A T c (K a) fs s') Nx s) : Step M A T c (m >>= K) fs s := by
  rw [Sem.bind_eq_wrap']
  exact stp_wrap h
theorem stp_at {p' : Pos} {k : Unit → Sem PySem.Fin} (h : Step M A T c (k ()) fs s) : Step M A T c (.at p' k) fs s :=
  stp_wrap (m := standAt p') (K := k) (J := .raise) (gd := id) (lv := id) (wpAny_standAt h)
theorem stp_point {l : List Value} {k : Unit → Sem PySem.Fin} (h : Step M A T c (k ()) fs s) : Step M A T c (.point l k) fs s :=
  stp_wrap (m := point) (K := k) (J := .raise) (gd := id) (lv := fun _ => l) (wpAny_point h)
theorem stp_call {c' : Code} {hd : Option Value} {g : Bool} {l : List Value} {k : Result → Sem PySem.Fin} (h : ∀ p, Step M A T c' (M.den c') (.ret k hd g l c p [] :: fs) s) : Step M A T c (.call c' hd g l k) fs s := by
  rintro Γ p rfl hΓ
  obtain ⟨e, s', hr, he⟩ := h p (Γ.goto c') p rfl (hΓ.goto c')
  exact ⟨e, s', runs_call_seg hr, he⟩
theorem stp_leaf {k : Result → Sem PySem.Fin} {hd : Option Value} {g : Bool} {l kp : List Value} {c₁ : Code} {p₁ : Pos} (r : Result) (h : Step M A T c₁ (k r) fs s) : Step M A T c (leafOf r) (.ret k hd g l c₁ p₁ kp :: fs) s := by
  rintro Γ p rfl hΓ
  obtain ⟨e, s', hr, he⟩ := h (Γ.goto c₁) p₁ rfl (hΓ.goto c₁)
  exact ⟨e, s', Runs.pop r hr, he⟩
theorem stp_again {c' : Code} (hq : c'.quiet = true) (h : Step M A T c' (M.den c') fs s) : Step M A T c (.pure (.again c')) fs s := by
  rintro Γ p rfl hΓ
  obtain ⟨e, s', hr, he⟩ := h (Γ.goto c') p rfl (hΓ.goto c')
  exact ⟨e, s', Runs.head (c₁ := c') (fun _ _ x => .again hq x) hr, he⟩
theorem stp_end (r : Result) (h : T (.ret r) s) : Step M A T c (leafOf r) [] s := by
  rintro Γ p rfl _
  exact ⟨.ret r, s, Runs.leaf r, h⟩
theorem stp_yield {v : Value} {gb : Bool} {l : List Value} {k : Resume → Sem PySem.Fin} (hfs : splitAtGen fs = none) (hg : gb = false) (h : ∀ p, T (.susp v false l k c p fs) s) : Step M A T c (.yield v gb l k) fs s := by
  subst hg
  rintro Γ p rfl _
  exact ⟨_, s, Runs.yield' fs hfs, h p⟩
section
variable {K : Flow → Sem PySem.Fin} {J : Value → Sem PySem.Fin} {gd : Bool → Bool} {lv : List Value → List Value}
theorem stp_nil (h : Step M A T c (K .next) fs s) : Step M A T c ((execs [] env).wrap K J gd lv) fs s := h
theorem stp_cons {st : Stmt} {rest : List Stmt} (h : Step M A T c ((exec st env).wrap (fun f => match f with | .next => (execs rest env).wrap K J gd lv | f => K f) J gd lv) fs s) :
    Step M A T c ((execs (st :: rest) env).wrap K J gd lv) fs s := by rw [execs_cons_wrap]; exact h
/-- yield e, as a statement -/
theorem stp_Yield {e : Expr} {yp pos : Pos} (hfs : splitAtGen fs = none) (hgd : gd false = false) (hco : env.scope.isCoroutine = false) (hi : interactive env = false)
    (h : wpAny M (A.over c fs) (eval e env) (fun v s' => ∀ l k p, (∀ A' T' s'', Step M A' T' c (K .next) fs s'' → Step M A' T' c (k (.send .none)) fs s'') → T (.susp v false l k c p fs) s') Nx s) :
    Step M A T c ((exec (.Expr (.Yield (some e) yp) pos) env).wrap K J gd lv) fs s := by
  rw [exec_Expr env _ pos hi rfl]
  show Step M A T c (.at pos fun _ => ((eval e env >>= fun v => (standAt yp >>= fun _ => yieldOut env v)) >>= fun x => dropValue (.Yield (some e) yp) pos x).wrap K J gd lv) fs s
  have hy : ∀ v, yieldOut env v = yieldValue v := fun v => by simp only [yieldOut, hco, Bool.false_eq_true, if_false]
  simp only [hy]
  refine stp_at ?_
  rw [Sem.bind_eq_wrap', Sem.bind_eq_wrap', Sem.wrap_wrap, Sem.wrap_wrap]
  refine stp_wrap (wpAny_mono h (fun v s' h' => ?_) fun _ _ x => x)
  refine stp_at (stp_yield hfs hgd fun p => h' _ _ p fun A' T' s'' z => z)
/-- what a loop's code comes back to -/
abbrev fromLoop (env : Env) (K : Flow → Sem PySem.Fin) (J : Value → Sem PySem.Fin) (gd : Bool → Bool) (lv : List Value → List Value) : Result → Sem PySem.Fin := fun r =>
  ((match r with | .ok f => (.pure f : Sem Flow) | .error e => .raise e).onRaise fun (x : Value) => do
    if (← field x 1) == Value.none then unsupported "frame.own-activation:exception-without-traceback"
    setFlight x env.frame).wrap K J gd lv
theorem stp_For {tgt iter : Expr} {body : List Stmt} {pos : Pos} (hs : ∀ x, foldedSetIterable iter env x = pure x)
    (h : wpAny M (A.over c fs) (eval iter env) (fun x s1 => wpAny M (A.over c fs) (pyIter x) (fun it s2 => ∀ p, Step M A T (.forLoop tgt it body [] env) (M.den (.forLoop tgt it body [] env))
      (.ret (fromLoop env K J gd lv) none (gd false) (lv []) c p [] :: fs) s2) Nx s1) Nx s) :
    Step M A T c ((exec (.For tgt iter body [] pos) env).wrap K J gd lv) fs s := by
  rw [exec_For]
  refine stp_bindw (wpAny_standAt (stp_bindw (wpAny_mono h (fun x s1 h1 => ?_) fun _ _ z => z)))
  refine stp_bindw (wpAny_of_eq (hs x) (stp_bindw (wpAny_standAt (stp_bindw (wpAny_holding (wpAny_mono h1 (fun it s2 h2 => ?_) fun _ _ z => z))))))
  exact stp_call h2
end
end
section
variable {prog : Program} {w : World} {A : Around} {T : End → Shared → Prop} {fs : List Frame} {s : Shared} {env : Env}
theorem stp_forLoop {tgt : Expr} {it : Value} {body : List Stmt}
    (h : wpAny (model prog w) (A.over (.forLoop tgt it body [] env) fs) (pyNext it) (fun r s1 => match r with
      | none => Step (model prog w) A T (.block [] env) (leafOf (.ok .next)) fs s1
      | some v => wpAny (model prog w) (A.over (.forLoop tgt it body [] env) fs) (letOwnedTupleGo tgt it v) (fun _ s2 => wpAny (model prog w) (A.over (.forLoop tgt it body [] env) fs) (assign tgt env v) (fun _ s3 =>
        ∀ J, Step (model prog w) A T (.forLoop tgt it body [] env) ((execs body env).wrap (fun f => match f with
          | .next | .cont => .pure (.again (.forLoop tgt it body [] env))
          | .brk => leafOf (.ok .next)
          | .ret v => leafOf (.ok (.ret v))) J id id) fs s3) Nx s2) Nx s1) Nx s) :
    Step (model prog w) A T (.forLoop tgt it body [] env) ((model prog w).den (.forLoop tgt it body [] env)) fs s := by
  show Step _ A T _ ((forTurn tgt it body [] env).onRaise (fun x => do noteFrame x env; theTreesLotGoes x)) fs s
  rw [Sem.onRaise_eq_wrap]
  unfold forTurn
  refine stp_bindw (wpAny_standAt (stp_bindw (wpAny_onRaise (wpAny_mono h (fun r s1 h1 => ?_) fun _ _ z => z.elim))))
  cases r with
  | none => exact stp_again rfl h1
  | some v =>
    refine stp_bindw (wpAny_mono h1 (fun _ s2 h2 => stp_bindw (wpAny_mono h2 (fun _ s3 h3 => ?_) fun _ _ z => z)) fun _ _ z => z)
    rw [Sem.bind_eq_wrap', Sem.wrap_wrap]
    refine Eq.mp (congrArg (fun t => Step (model prog w) A T _ t fs s3) (Sem.wrap_congr (execs body env) _ _ (fun f => ?_) fun e => rfl)) (h3 _)
    cases f <;> rfl
/-- a generator def's body begins -/
theorem stp_func {body : List Stmt} (h : ∀ J, Step (model prog w) A T (.func body env) ((execs body env).wrap (fun f => leafOf (.ok (.ret (match f with | .ret v => v | _ => .none)))) J id id) fs s) :
    Step (model prog w) A T (.func body env) ((model prog w).den (.func body env)) fs s := by
  show Step _ A T _ (.point [] fun _ => ((execs body env).onRaise (leaving env)) >>= _) fs s
  refine stp_point ?_
  rw [Sem.onRaise_eq_wrap, Sem.bind_eq_wrap', Sem.wrap_wrap]
  refine Eq.mp (congrArg (fun t => Step (model prog w) A T _ t fs s) (Sem.wrap_congr (execs body env) _ _ (fun f => ?_) fun e => rfl)) (h _)
  cases f <;> rfl
/-- where a generator stands -/
def StepOf (M : Model) (A : Around) (T : End → Shared → Prop) (gs : GenState) (s : Shared) : Prop :=
  match gs with
  | .fresh c => Step M A T c (M.den c) [] s
  | .suspended k _ c _ fs _ => Step M A T c (k (.send .none)) fs s
  | _ => False
/-- it is woken -/
theorem wpAny_resumeS {M : Model} {g : Nat} {gs : GenState} {l : List Value} {α : Type} {k : GenResult → Sem α} {E : Value → Shared → Prop} {Q : α → Shared → Prop} (hg : s.gens[g]? = some gs) (hgo : StepOf M A T gs (s.setGen g .running))
    (hT : ∀ e s₁, T e s₁ → e.quiet = true ∧ wpAny M A (k e.result) Q E (s₁.setGen g e.genState)) : wpAny M A (.resume g (.send .none) l k) Q E s := by
  intro Γ p hΓ
  rw [Sem.wp_resume]
  cases gs with
  | fresh c =>
    obtain ⟨e₁, s₁, hr, he⟩ := hgo (Γ.wake c p) p rfl (hΓ.wake c p)
    obtain ⟨hq, hk⟩ := hT e₁ s₁ he
    refine ⟨_, _, ?_, hk Γ p hΓ⟩
    unfold Wakes
    rw [hg]
    exact ⟨e₁, s₁, hr, hq, rfl, rfl⟩
  | suspended k₀ l₀ c₀ p₀ fs₀ cl =>
    obtain ⟨e₁, s₁, hr, he⟩ := hgo (Γ.wake c₀ p) p₀ rfl (hΓ.wake c₀ p)
    obtain ⟨hq, hk⟩ := hT e₁ s₁ he
    refine ⟨_, _, ?_, hk Γ p hΓ⟩
    unfold Wakes
    rw [hg]
    exact ⟨e₁, s₁, hr, hq, rfl, rfl⟩
  | running => exact hgo.elim
  | finished => exact hgo.elim
/-- what a waking may end with: a yield, or the end -/
def Told (Yv : Value → GenState → Shared → Prop) (D : Shared → Prop) (e : End) (s : Shared) : Prop :=
  match e with
  | .susp v g l k c p fs => (End.susp v g l k c p fs).quiet = true ∧ Yv v (End.susp v g l k c p fs).genState s
  | .ret (.ok (.ret .none)) => D s
  | _ => False
theorem pyNextS {E : Value → Shared → Prop} {Q : Option Value → Shared → Prop} {a : Addr} {g : Nat} {gs : GenState} {Yv : Value → GenState → Shared → Prop} {D : Shared → Prop} (hh : A.handled = none) (hl : s.heap.NoLimit) (hroom : A.depth < recursionLimit) (hg : s.heap.IsGen a g)
    (hgs : s.gens[g]? = some gs) (hgo : StepOf (model prog w) A.in1 (Told Yv D) gs (s.setGen g .running))
    (hY : ∀ v gs' s₁, Yv v gs' s₁ → Q (some v) (s₁.setGen g gs'))
    (hD : ∀ s₁, D s₁ → ∀ h', (∀ b o, s₁.heap.get? b = some o → h'.get? b = some o) → Q none { s₁.setGen g .finished with heap := h' }) : wpAny (model prog w) A (pyNext (.ref a)) Q E s := by
  unfold pyNext
  refine wpAny_bind (wpAny_attempt (wpAny_callSpecial?_slot (name := Str.ofString "__next__") hg.typeIs slot_gen_next (wpAny_call_entry slot_gen_next hg.typeIs entry_gen_next ?_ (args_gen_next _))))
  show wpAny _ A.in1 (Builtin.Generator.genWake (.ref a) (.send .none)) _ _ s
  unfold Builtin.Generator.genWake
  refine wpAny_bind (wpAny_holding (wpAny_genNumber hg (wpAny_bind (wpAny_genState hgs ?_))))
  cases gs with
  | running => exact hgo.elim
  | finished => exact hgo.elim
  | _ =>
    refine wpAny_bind (wpAny_roomToWake hl hroom ?_)
    show wpAny _ A.in1 (.resume g (.send .none) [] _) _ _ s
    refine wpAny_resumeS hgs hgo fun e s₁ he => ?_
    cases e with
    | susp v gg l kk c p fs =>
      obtain ⟨h1, h2⟩ := he
      exact ⟨h1, wpAny_pure ⟨v, rfl, wpAny_pure (hY v _ s₁ h2)⟩⟩
    | ret r =>
      cases r with
      | error x => exact he.elim
      | ok f =>
        cases f with
        | ret v =>
          cases v with
          | none =>
            refine ⟨rfl, ?_⟩
            show wpAny _ A.in1 (newExc (.type "StopIteration") [] >>= _) _ _ _
            simp only [newExc, newTuple]
            refine wpAny_bind (wpAny_bind (wpAny_newObj_type ?_ (by size_fits)))
            refine wpAny_bind (m := firstArgMember _ _) (wpAny_of_eq (a := Value.none) (by first | rfl | (simp only [firstArgMember]; rfl)) ?_)
            refine wpAny_newObj_type ?_ (by size_fits)
            simp only [raiseNew]
            refine wpAny_bind (wpAny_bind (wpAny_handled ?_))
            first | rw [show A.in1.handled = none from hh] | rw [hh]
            refine wpAny_throw ?_
            refine wpAny_bind (wpAny_isInstance (T := "StopIteration") (b := true) ⟨_, Heap.get?_push_size _ rfl, rfl⟩ isSubtype_stop ?_)
            exact wpAny_pure (hD s₁ he _ fun b o hb => Heap.get?_push_of_some _ (Heap.get?_push_of_some _ hb))
          | _ => exact he.elim
        | _ => exact he.elim
end
end Tw
/-! Ggh: the hand layer's context for one waking of a generator: what stood when it was woken is older than its frame, or known by its very objects. -/
namespace Tw
open PySem PyProof.Rows L2 GenW
abbrev Sg := L2.St

theorem there {P : Program} {w : World} {H : Hp} {h : Heap} {a : Addr} {o : HO} (x : ObjOk P w H h a o) : ∃ u, h.get? a = some u := by
  cases o with
  | lst xs => obtain ⟨_, _, _, _, e⟩ := x; exact ⟨_, e⟩
  | tup xs => obtain ⟨_, _, _, ⟨o, e, _⟩⟩ := x; exact ⟨_, e⟩
  | dK kvs => obtain ⟨_, _, _, _, o, _, _, e, _⟩ := x; exact ⟨_, e⟩
  | dT kvs => obtain ⟨_, _, _, _, o, _, _, e, _⟩ := x; exact ⟨_, e⟩
  | set S n => obtain ⟨o, _, _, _, e, _⟩ := x; exact ⟨_, e⟩
  | ins C dx fs => obtain ⟨_, _, _, e, _⟩ := x; exact ⟨_, e⟩
  | own y => exact x
  | xd fs => obtain ⟨_, ⟨_, _, _, e, _⟩, _⟩ := x; exact ⟨_, e⟩
  | rng lo hi => obtain ⟨_, _, _, e⟩ := x; exact ⟨_, e⟩
  | frz ob u => exact ⟨_, x.1⟩
  | tbl ps => exact ⟨_, x⟩
  | met f y => exact ⟨_, x⟩
  | ext φ => exact x.2.1
/-- what is told by its own object alone, and is no part of another thing -/
def plain : HO → Prop
  | .lst _ => True
  | .dK _ => True
  | .frz _ (.dK _) => True
  | _ => False
theorem plain_stay {P : Program} {w : World} {H H' : Hp} {h h' : Heap} {a : Addr} {u : HO} (x : ObjOk P w H h a u) (p : plain u) (k : ∀ o, h.get? a = some o → h'.get? a = some o) : ObjOk P w H' h' a u := by
  cases u with
  | lst xs => obtain ⟨z, its, n, r, e⟩ := x; exact ⟨z, its, n, r, k _ e⟩
  | dK kvs => obtain ⟨z, y, vs, r, ob, es, ep, e, c⟩ := x; exact ⟨z, y, vs, r, ob, es, ep, k _ e, c⟩
  | frz o v =>
    cases v with
    | dK kvs => obtain ⟨e1, z, y, vs, r, ob, es, ep, e, c⟩ := x; exact ⟨k _ e1, z, y, vs, r, ob, es, ep, k _ e, c⟩
    | _ => exact p.elim
  | _ => exact p.elim

/-- the heap below L -/
def cut (s : Shared) (L : Nat) : Shared := { s with heap := { s.heap with objs := s.heap.objs.extract 0 L } }
theorem cut_get {s : Shared} {L b : Nat} {o : Obj} : (cut s L).heap.get? b = some o ↔ b < L ∧ s.heap.get? b = some o := by
  show (match (s.heap.objs.extract 0 L)[b]? with | some ⟨_, _, .freed, _⟩ => none | o => o) = some o ↔ b < L ∧ (match s.heap.objs[b]? with | some ⟨_, _, .freed, _⟩ => none | o => o) = some o
  rw [Array.getElem?_extract]
  by_cases h : b < L
  · simp only [Nat.zero_add, Nat.sub_zero]
    by_cases h2 : b < s.heap.objs.size
    · rw [if_pos (by omega)]
      simp [h]
    · rw [if_neg (by omega), Array.getElem?_eq_none (by omega)]
      simp
  · rw [if_neg (by omega)]
    simp [h]
theorem cut_size {s : Shared} {L : Nat} (h : L ≤ s.heap.objs.size) : (cut s L).heap.objs.size = L := by
  show (s.heap.objs.extract 0 L).size = L
  rw [Array.size_extract]; omega

/-- what the generator knows of the heap when it is woken: fp are its own objects, pd what it knows of them; all else that is younger than its frame is known by its very object -/
def mix (s : Shared) (H : Hp) (L : Nat) (fp : List Addr) (pd : Hp) : Hp := fun b =>
  if b ∈ fp then pd b else match H b with
    | some u => some u
    | none => if L ≤ b then (s.heap.get? b).map fun o => HO.frz o (.own 0) else none
section
variable {s : Shared} {H pd : Hp} {L b : Nat} {fp : List Addr}
theorem mix_own (h : b ∈ fp) : mix s H L fp pd b = pd b := by unfold mix; rw [if_pos h]
theorem mix_old {u : HO} (h : b ∉ fp) (e : H b = some u) : mix s H L fp pd b = some u := by unfold mix; rw [if_neg h, e]
theorem mix_frz {o : Obj} (h : b ∉ fp) (e : H b = none) (hl : L ≤ b) (eo : s.heap.get? b = some o) : mix s H L fp pd b = some (.frz o (.own 0)) := by unfold mix; rw [if_neg h, e, eo]; simp [hl]
theorem mix_low (h : b ∉ fp) (hl : b < L) : mix s H L fp pd b = H b := by
  unfold mix
  rw [if_neg h]
  cases e : H b with
  | none => rw [if_neg (by omega)]
  | some u => rfl
theorem mix_none (h : b ∉ fp) (e : mix s H L fp pd b = none) : H b = none := by
  cases q : H b with
  | none => rfl
  | some u => rw [mix_old h q] at e; cases e
end

/-- a generator's frame: no cells -/
structure GEnv (env : Env) (N : List Str) : Prop where
  kind : env.scope.kind = .function
  glob : env.globals = mainGlobals
  blt : env.builtins = builtinsNs
  cells : env.cells = []
  frame : env.frame = some env.locals
  nocell : ∀ x, env.scope.names.lookup x ≠ some .cell ∧ env.scope.names.lookup x ≠ some .free
/-- the context of one waking -/
def gX (P : Program) (w : World) (K : PySem.W.Frag) (mg : Str → Option Value) (base : Heap) (N : List Str) (env : Env) (stk : List Env) (A : Around) (s : Shared) (M : Hp) : Cx where
  prog := P
  w := w
  K := K
  mg := mg
  base := base
  A := A.deeper env
  N := N
  s_0 := cut s env.locals
  H_0 := M
  env := env
  outer := stk
  stack := env :: stk
  ex := []
  fn := fun x => env.scope.names.lookup x == some .cell
  calm := true
  pn := []
  xe := fun _ _ => False
/-- the names' values in the frame -/
def LocOk (N : List Str) (env : Env) (σ : Sg) (h : Heap) : Prop :=
  σ.length = N.length ∧ ∃ m, h.Ns env.locals m ∧ ∀ (i : Nat) (x : Str) (v : V), N[i]? = some x → σ[i]? = some (some v) → Vis env.scope x → ∃ u, RelV v u ∧ Look env h m x u
/-- a waking: s, H: where the consumer stands; fp: what the generator has of its own, as it stood at h -/
structure Wk (P : Program) (w : World) (K : PySem.W.Frag) (mg : Str → Option Value) (base : Heap) (k : Nat) (stk : List Env) (A : Around) (s : Shared) (H : Hp) (fp : List Addr) (h : Heap) : Prop where
  e0 : Env0 P w K mg base A stk s H
  room : Room k A
  no : ∀ b ∈ fp, H b = none
  keep : ∀ b ∈ fp, ∀ o, h.get? b = some o → s.heap.get? b = some o
/-- how it sleeps: the frame's place, what it knows of its own objects -/
structure Sleep (P : Program) (w : World) (base : Heap) (N : List Str) (env : Env) (stk : List Env) (σ : Sg) (fp : List Addr) (pd : Hp) (h : Heap) : Prop where
  genv : GEnv env N
  old : base.objs.size ≤ env.locals
  frs : ∀ b ∈ frs stk, b < env.locals
  here : env.locals ∈ fp
  young : ∀ b ∈ fp, env.locals ≤ b
  loc : LocOk N env σ h
  frame : pd env.locals = none
  dom : ∀ b u, pd b = some u → b ∈ fp ∧ plain u ∧ ObjOk P w pd h b u
section
variable {P : Program} {w : World} {K : PySem.W.Frag} {mg : Str → Option Value} {base : Heap} {k : Nat} {stk : List Env} {A : Around} {s : Shared} {H pd : Hp} {fp : List Addr} {h : Heap} {N : List Str} {env : Env} {σ : Sg}
/-- it wakes -/
theorem wake (W : Wk P w K mg base k stk A s H fp h) (Z : Sleep P w base N env stk σ fp pd h) : Inv (gX P w K mg base N env stk A s (mix s H env.locals fp pd)) [] σ (mix s H env.locals fp pd) s := by
  obtain ⟨hl, m, hn, hx⟩ := Z.loc
  obtain ⟨oL, es, ep, hoL, hrest⟩ := id hn
  have hoL' := W.keep _ Z.here _ hoL
  have hL : env.locals ≤ s.heap.objs.size := Nat.le_of_lt (Heap.lt_size hoL')
  have notin : ∀ b, b < env.locals → b ∉ fp := fun b hb hm => absurd (Z.young b hm) (Nat.not_le_of_lt hb)
  have nocell : ∀ x c, env.cells.lookup x = some c → False := fun x c e => by rw [Z.genv.cells] at e; cases e
  have kinds : ∀ x, env.kindOf x ≠ some .cell ∧ env.kindOf x ≠ some .free := fun x => Z.genv.nocell x
  have fr0 : ∀ b ∈ frs stk, mix s H env.locals fp pd b = none := fun b hb => by
    rw [mix_low (notin b (Z.frs b hb)) (Z.frs b hb)]
    exact W.e0.frf b hb
  have funs : ∀ l : List Env, (∀ b ∈ frs l, b < env.locals) → s.heap.FunFrames base l → (cut s env.locals).heap.FunFrames base l := by
    intro l
    induction l with
    | nil => intro _ _; trivial
    | cons e rest ih =>
      rintro hb ⟨h1, ⟨L, o, h2, h3, h4, h5⟩, h6⟩
      refine ⟨h1, ⟨L, o, h2, h3, cut_get.mpr ⟨hb L ?_, h4⟩, h5⟩, ih (fun b hm => hb b ?_) h6⟩
      · unfold L2.frs; rw [List.filterMap_cons, h2]; exact List.mem_cons_self
      · unfold L2.frs at hm ⊢; rw [List.filterMap_cons, h2]; exact List.mem_cons_of_mem _ hm
  have hok : HOk P w (mix s H env.locals fp pd) s.heap := by
    intro b u e
    by_cases hb : b ∈ fp
    · rw [mix_own hb] at e
      obtain ⟨_, hp, ho⟩ := Z.dom b u e
      exact plain_stay ho hp fun o q => W.keep b hb o q
    · cases q : H b with
      | some v =>
        rw [mix_old hb q] at e
        cases e
        have nf : ∀ {d u}, H d = some u → d ∉ fp := fun {d u} z hm => by rw [W.no d hm] at z; cases z
        exact (W.e0.hok b _ q).stay (fun _ _ _ z => z) (fun d z => mix_old (nf z) z) fun d xs z => mix_old (nf z) z
      | none =>
        unfold mix at e
        rw [if_neg hb, q] at e
        simp only at e
        split at e
        · cases qo : s.heap.get? b with
          | none => rw [qo] at e; cases e
          | some o =>
            rw [qo] at e
            cases e
            exact ⟨qo, o, qo⟩
        · cases e
  refine ⟨⟨W.e0.mod, Z.genv.kind, Z.genv.glob, Z.genv.blt, Nat.le_of_eq (cut_size hL), fun x y c e => (nocell x c e).elim, fun x e => e.elim (fun z => absurd z (kinds x).1) fun z => absurd z (kinds x).2, fun x c _ e => (nocell x c e).elim,
    fun _ => W.room.hd, Around.frames_deeper W.e0.frames, .inr ⟨rfl, Z.genv.frame⟩, fun b z => absurd (show b ∈ ([] : List Addr) from z) (by simp), fun b o e => ?_, ?_, fun b o _ z => absurd (show b ∈ ([] : List Addr) from z) (by simp), fun b z => absurd (show b ∈ ([] : List Addr) from z) (by simp), funs stk Z.frs W.e0.funs, fr0⟩,
    rfl, W.e0.bare, Un.kept fun b o e => (cut_get.mp e).2, ⟨m, ⟨oL, es, ep, hoL', hrest⟩, fun i x v e1 e2 e3 => ?_⟩, fun x c e => (nocell x c e).elim, ?_, fun x c e => (nocell x c e).elim, fun p hp => absurd (show p ∈ ([] : List (Addr × Obj)) ++ [] from hp) (by simp), hok, hl⟩
  · have hb : b < env.locals := Nat.lt_of_lt_of_le (Heap.lt_size e) Z.old
    obtain ⟨z1, z2⟩ := W.e0.bs b o e
    exact ⟨cut_get.mpr ⟨hb, z1⟩, (mix_low (notin b hb) hb).trans z2⟩
  · exact Nat.le_trans Z.old (Nat.le_of_eq (cut_size hL).symm)
  · obtain ⟨u, r, l⟩ := hx i x v e1 e2 e3
    refine ⟨u, r, ?_⟩
    rcases l with l | ⟨l, _⟩
    · exact .inl l
    · rcases l with z | z
      · exact absurd z (kinds x).1
      · exact absurd z (kinds x).2
  · exact (mix_own Z.here).trans Z.frame
/-- what a waking gives the consumer: the heap goes from H to H' as by a call, but for the generator's own objects, of which there may be more -/
structure Prom (P : Program) (w : World) (stk : List Env) (s : Shared) (H : Hp) (fp : List Addr) (s' : Shared) (H' : Hp) : Prop where
  os : s'.os = s.os
  bare : AllBare s'.gens
  un : Un (frs stk) fp H H' s.heap s'.heap
  hok : HOk P w H' s'.heap
  same : Same H H'
/-- its own objects then -/
def Mine (s : Shared) (fp : List Addr) (s' : Shared) (H' : Hp) (fp' : List Addr) : Prop := ∀ b ∈ fp', H' b = none ∧ (b ∈ fp ∨ s.heap.objs.size ≤ b) ∧ ∃ o, s'.heap.get? b = some o ∧ ∀ v, o.data ≠ .cell v
theorem plain_obj {P : Program} {w : World} {H : Hp} {h : Heap} {a : Addr} {u : HO} (x : ObjOk P w H h a u) (p : plain u) : ∃ o, h.get? a = some o ∧ ∀ v, o.data ≠ .cell v := by
  have dk : ∀ kvs, ObjOk P w H h a (.dK kvs) → ∃ o, h.get? a = some o ∧ ∀ v, o.data ≠ .cell v := fun kvs x => by
    obtain ⟨_, _, _, _, o, es, ep, e, _, hd, _⟩ := x
    exact ⟨o, e, fun v z => by rw [hd] at z; cases z⟩
  cases u with
  | lst xs => obtain ⟨_, _, _, _, e⟩ := x; exact ⟨_, e, fun v z => by cases z⟩
  | dK kvs => exact dk kvs x
  | frz o v =>
    cases v with
    | dK kvs => exact dk kvs x.2
    | _ => exact p.elim
  | _ => exact p.elim
open Classical in
/-- what the consumer knows then -/
noncomputable def out (s : Shared) (H : Hp) (L : Nat) (fp' : List Addr) (G : Hp) : Hp := fun b => if b ∈ fp' ∨ (H b = none ∧ L ≤ b ∧ ∃ o, s.heap.get? b = some o) then none else G b
section
variable {pins : List (Addr × Obj)} {G : Hp} {s' : Shared} {fp' : List Addr}
/-- it goes to sleep, or ends -/
theorem slept (W : Wk P w K mg base k stk A s H fp h) (Z : Sleep P w base N env stk σ fp pd h) {σ' : Sg} (I : Inv (gX P w K mg base N env stk A s (mix s H env.locals fp pd)) pins σ' G s') (hs : Same (mix s H env.locals fp pd) G)
    (sub : ∀ b ∈ fp, b ∈ fp') (new : ∀ b ∈ fp', (b ∈ fp ∨ s.heap.objs.size ≤ b) ∧ ∀ u, G b = some u → plain u) :
    Prom P w stk s H fp s' (out s H env.locals fp' G) ∧ (∀ b ∈ fp', out s H env.locals fp' G b = none) ∧ ∀ b u, (∀ v, u ≠ .frz v (.own 0)) → ¬ plain u → G b = some u → out s H env.locals fp' G b = some u := by
  have frz : ∀ b o, b ∉ fp → H b = none → env.locals ≤ b → s.heap.get? b = some o → G b = some (.frz o (.own 0)) ∧ s'.heap.get? b = some o := fun b o hb hn hl e => by
    have z := hs b _ (mix_frz (pd := pd) hb hn hl e)
    exact ⟨z, (I.hok b _ z).1⟩
  have nin : ∀ b u, H b = some u → b ∉ fp' := fun b u e hm => by
    rcases (new b hm).1 with z | z
    · rw [W.no b z] at e; cases e
    · exact absurd (W.e0.hok.lt e) (Nat.not_lt_of_le z)
  have nfp : ∀ b u, H b = some u → b ∉ fp := fun b u e hm => nin b u e (sub b hm)
  have sm : Same H (out s H env.locals fp' G) := fun b u e => by
    unfold out
    rw [if_neg, hs b u (mix_old (nfp b u e) e)]
    rintro (z | ⟨z, _⟩)
    · exact nin b u e z
    · rw [e] at z; cases z
  have pass : ∀ b u, (∀ v, u ≠ .frz v (.own 0)) → ¬ plain u → G b = some u → out s H env.locals fp' G b = some u := fun b u h1 h2 e => by
    unfold out
    rw [if_neg, e]
    rintro (z | ⟨z1, z2, o, z3⟩)
    · exact h2 ((new b z).2 u e)
    · by_cases hb : b ∈ fp
      · exact h2 ((new b (sub b hb)).2 u e)
      · have := (frz b o hb z1 z2 z3).1
        rw [e] at this
        exact h1 o (Option.some.inj this)
  have low : ∀ b, b < env.locals → b ∉ fp := fun b hb hm => absurd (Z.young b hm) (Nat.not_le_of_lt hb)
  refine ⟨⟨I.os, I.bare, ⟨fun b o e hn hf hx => ?_, fun b o e hn hf hx => ?_, fun b o e hn hx => ?_, fun b o e hx => ?_, fun b xs e => sm b _ e, fun b o u e => sm b _ e, fun b ps e => ⟨#[], by rw [sm b _ e]; simp⟩⟩, fun b u e => ?_, sm⟩, fun b hb => ?_, pass⟩
  · by_cases hl : env.locals ≤ b
    · exact (frz b o hx hn hl e).2
    · exact I.base.keep b o (cut_get.mpr ⟨Nat.lt_of_not_le hl, e⟩) ((mix_low hx (Nat.lt_of_not_le hl)).trans hn) hf (by intro z; exact absurd (show b ∈ ([] : List Addr) from z) (by simp))
  · have hl := Z.frs b hf
    exact I.base.slot b o (cut_get.mpr ⟨hl, e⟩) ((mix_low hx hl).trans hn) hf (by intro z; exact absurd (show b ∈ ([] : List Addr) from z) (by simp))
  · unfold out
    by_cases hl : env.locals ≤ b
    · rw [if_pos (.inr ⟨hn, hl, o, e⟩)]
    · by_cases hc : b ∈ fp' ∨ (H b = none ∧ env.locals ≤ b ∧ ∃ o, s.heap.get? b = some o)
      · rw [if_pos hc]
      · rw [if_neg hc]
        exact I.base.free b o (cut_get.mpr ⟨Nat.lt_of_not_le hl, e⟩) ((mix_low hx (Nat.lt_of_not_le hl)).trans hn) (by intro z; exact absurd (show b ∈ ([] : List Addr) from z) (by simp))
  · by_cases hl : env.locals ≤ b
    · cases q : H b with
      | none => exact ⟨o, (frz b o hx q hl e).2⟩
      | some u => exact there (I.hok b u (hs b u (mix_old hx q)))
    · exact I.base.there b o (cut_get.mpr ⟨Nat.lt_of_not_le hl, e⟩) (by intro z; exact absurd (show b ∈ ([] : List Addr) from z) (by simp))
  · have hc : ¬ (b ∈ fp' ∨ (H b = none ∧ env.locals ≤ b ∧ ∃ o, s.heap.get? b = some o)) := fun z => by
      unfold out at e
      rw [if_pos z] at e; cases e
    unfold out at e
    rw [if_neg hc] at e
    exact (I.hok b u e).stay (fun _ _ _ z => z) (fun d z => pass d _ (fun v q => by cases q) (fun q => q) z) fun d xs z => pass d _ (fun v q => by cases q) (fun q => q) z
  · unfold out
    rw [if_pos (.inl hb)]
end
end
end Tw
/-! Grd: a generator that is ready to be woken, as a walk. -/
namespace Tw
open PySem PyProof.Rows L2 GenW

/-- f: how often it may still be woken; i: the turn; fp: its own objects, as they stand at h -/
def Ready (P : Program) (w : World) (K : PySem.W.Frag) (mg : Str → Option Value) (base : Heap) (k : Nat) (stk : List Env) (J : It) : Nat → Nat → List Addr → Heap → GenState → Prop
  | 0, _, _, _, _ => False
  | f + 1, i, fp, h, gs => ∀ (A : Around) (s : Shared) (H : Hp), Wk P w K mg base k stk A s H fp h →
    (J.go i H → StepOf (model P w) A (Told (fun v gs' s' => ∃ x H' fp', Prom P w stk s H fp s' H' ∧ Mine s fp s' H' fp' ∧ RelV x v ∧ J.yld i H x H' ∧ gs'.bare = true ∧ sleeps gs' ∧ Ready P w K mg base k stk J f (i + 1) fp' s'.heap gs') fun _ => False) gs s) ∧
    (J.stop i H → StepOf (model P w) A (Told (fun _ _ _ => False) fun s' => ∃ H', Prom P w stk s H fp s' H') gs s)
section
variable {P : Program} {w : World} {K : PySem.W.Frag} {mg : Str → Option Value} {base : Heap} {k : Nat} {stk : List Env} {J : It}
theorem Ready.keep {f i : Nat} {fp : List Addr} {h h' : Heap} {gs : GenState} (r : Ready P w K mg base k stk J f i fp h gs) (kp : ∀ b ∈ fp, ∀ o, h.get? b = some o → h'.get? b = some o) : Ready P w K mg base k stk J f i fp h' gs := by
  cases f with
  | zero => exact r
  | succ f => exact fun A s H W => r A s H ⟨W.e0, W.room, W.no, fun b hb o e => W.keep b hb o (kp b hb o e)⟩
/-- the walk's state; n: how many turns there are -/
def gAt (P : Program) (w : World) (K : PySem.W.Frag) (mg : Str → Option Value) (base : Heap) (k : Nat) (stk : List Env) (J : It) (n : Nat) (a : Addr) (g : Nat) : Nat → List Addr → Heap → Array GenState → Prop := fun i fpc h G =>
  ∃ fp, fpc = a :: fp ∧ a ∉ fp ∧ h.IsGen a g ∧ (∀ b ∈ fp, ∃ o, h.get? b = some o ∧ ∀ v, o.data ≠ .cell v) ∧ ∃ gs, G[g]? = some gs ∧ (0 < i → sleeps gs) ∧ ∃ f, f + i = n + 1 ∧ Ready P w K mg base k stk J f i fp h gs
theorem runG {tg : Expr} {n : Nat} {a : Addr} {g : Nat} (hgo : ∀ i H, J.go i H → i < n) (hst : ∀ i H, J.stop i H → i ≤ n) : TurnG P w K mg base tg J a (k + 1) stk (gAt P w K mg base k stk J n a g) where
  obj := by
    rintro i fpc h G ⟨fp, rfl, _, hg, ho, _⟩ b hb
    rcases List.mem_cons.mp hb with rfl | hb
    · obtain ⟨o, nm, qn, e, _, d, _⟩ := hg
      exact ⟨o, e, fun v z => by rw [d] at z; cases z⟩
    · exact ho b hb
  keep := by
    rintro i fpc h h' G ⟨fp, rfl, hn, hg, ho, gs, e, sl, f, hf, r⟩ kp
    refine ⟨fp, rfl, hn, ?_, fun b hb => ?_, gs, e, sl, f, hf, r.keep fun b hb => kp b (List.mem_cons_of_mem _ hb)⟩
    · obtain ⟨o, nm, qn, e, z⟩ := hg
      exact ⟨o, nm, qn, kp _ List.mem_cons_self o e, z⟩
    · obtain ⟨o, e, d⟩ := ho b hb
      exact ⟨o, kp b (List.mem_cons_of_mem _ hb) o e, d⟩
  asl := by
    rintro i fpc h G ⟨fp, rfl, hn, hg, ho, gs, e, sl, z⟩
    exact ⟨g, gs, e, sl (Nat.succ_pos i), fun G' e' => ⟨fp, rfl, hn, hg, ho, gs, e', sl, z⟩⟩
  item := by
    rintro X rfl rfl rfl rfl rfl rfl hc hr i fpc pins s σ H I hf ⟨fp, rfl, hn, hg, ho, gs, e, sl, f, hff, r⟩ go
    obtain ⟨f, rfl⟩ : ∃ f', f = f' + 1 := ⟨f - 1, by have := hgo i H go; omega⟩
    have hgs : g < s.gens.size := (Array.getElem?_eq_some_iff.mp e).1
    have nfr : a ∉ frs X.stack := fun hm => (List.mem_cons.mp (I.stkSub a hm)).elim (hf a List.mem_cons_self).2.1 (hf a List.mem_cons_self).2.2.1
    have W : Wk X.prog X.w X.K X.mg X.base k X.stack X.A.in1 (s.setGen g .running) H fp s.heap := by
      obtain ⟨z1, z2, z3, z4, z5, z6, z7, z8⟩ := I.env0
      exact ⟨⟨z1, z2, z3, z4, z5, z6, z7, allBare_setGen z8 rfl⟩, hr.in1, fun b hb => (hf b (List.mem_cons_of_mem _ hb)).1, fun b hb o q => q⟩
    refine wpAny_gsz (n := g + 1) hgs (pyNextS (I.ok.hd hc) I.nolimit (by have := hr.dp; omega) hg e ((r _ _ _ W).1 go) (fun v gs' s₁ hv => ?_) fun _ z => z.elim)
    intro hsz
    have hsz : g < s₁.gens.size := by
      have q : (s₁.setGen g gs').gens.size = s₁.gens.size := setGen_size _ _ _
      omega
    obtain ⟨x, H', fp', p, mn, rx, hy, hb, hsl, rd⟩ := hv
    obtain ⟨o, nm, qn, eo, oc, od, os⟩ := id hg
    have eo' : s₁.heap.get? a = some o := p.un.keep a o eo (hf a List.mem_cons_self).1 nfr hn
    refine ⟨v, rfl, go_of (s := s₁.setGen g gs') eo' oc od (by decide) ?_⟩
    have J1 : Inv X pins σ H' (s₁.setGen g gs') := I.call' (s' := s₁.setGen g gs') (ch := fp) p.os p.un p.hok (allBare_setGen p.bare hb) fun b hb =>
      let z := (hf b (List.mem_cons_of_mem _ hb)).2; ⟨z.2.2.1, z.1, z.2.2.2.1, z.2.2.2.2⟩
    have na : a ∉ fp' := fun hm => (mn a hm).2.1.elim hn fun z => absurd (Heap.lt_size eo) (Nat.not_lt_of_le z)
    refine ⟨x, H', a :: fp', J1, rx, hy, ⟨fp', rfl, na, ⟨o, nm, qn, eo', oc, od, os⟩, fun b hb => (mn b hb).2.2, gs', setGen_at hsz, fun _ => hsl, f, by omega, rd⟩, fun b hb => ?_⟩
    rcases List.mem_cons.mp hb with rfl | hb
    · exact ⟨p.un.free _ o eo (hf _ List.mem_cons_self).1 hn, (hf _ List.mem_cons_self).2⟩
    · obtain ⟨z1, z2, _⟩ := mn b hb
      rcases z2 with z2 | z2
      · exact ⟨z1, (hf b (List.mem_cons_of_mem _ z2)).2⟩
      · exact I.fpOk z2 z1
  done := by
    rintro X rfl rfl rfl rfl rfl rfl hc hr i fpc pins s σ H I hf ⟨fp, rfl, hn, hg, ho, gs, e, sl, f, hff, r⟩ stop
    obtain ⟨f, rfl⟩ : ∃ f', f = f' + 1 := ⟨f - 1, by have := hst i H stop; omega⟩
    have W : Wk X.prog X.w X.K X.mg X.base k X.stack X.A.in1 (s.setGen g .running) H fp s.heap := by
      obtain ⟨z1, z2, z3, z4, z5, z6, z7, z8⟩ := I.env0
      exact ⟨⟨z1, z2, z3, z4, z5, z6, z7, allBare_setGen z8 rfl⟩, hr.in1, fun b hb => (hf b (List.mem_cons_of_mem _ hb)).1, fun b hb o q => q⟩
    refine pyNextS (I.ok.hd hc) I.nolimit (by have := hr.dp; omega) hg e ((r _ _ _ W).2 stop) (fun v gs' s₁ z => z.elim) fun s₁ ⟨H', p⟩ h' hk => ?_
    refine ⟨rfl, H', p.same, I.call' (s' := { s₁.setGen g .finished with heap := h' }) (ch := fp) p.os (p.un.trans (Un.kept hk)) (p.hok.kept hk) (allBare_setGen p.bare rfl) fun b hb => ?_⟩
    have z := (hf b (List.mem_cons_of_mem _ hb)).2
    exact ⟨z.2.2.1, z.1, z.2.2.2.1, z.2.2.2.2⟩
  self := by
    rintro A i fpc s Q E ⟨fp, rfl, hn, hg, _⟩ h
    exact wpAny_pyIter_gen hg h
end
end Tw
/-! Gcg: a generator def's call, and the walk over what it gives. -/
namespace Tw
open PySem PyProof.Rows L2 GenW

/-- what is asked of a call: the arguments, the heap; the walk it gives, how many turns it has -/
abbrev SpW := List V → Hp → It → Nat → Prop
/-- made: a generator that has not begun -/
def MadeG (P : Program) (w : World) (K : PySem.W.Frag) (mg : Str → Option Value) (base : Heap) (k : Nat) (stk : List Env) (J : It) (n : Nat) (s : Shared) (u : Value) (s' : Shared) : Prop :=
  ∃ (a : Addr) (g : Nat) (fpc : List Addr), u = .ref a ∧ s'.os = s.os ∧ AllBare s'.gens ∧ (∀ b o, s.heap.get? b = some o → s'.heap.get? b = some o) ∧ gAt P w K mg base k stk J n a g 0 fpc s'.heap s'.gens ∧ ∀ b ∈ fpc, s.heap.objs.size ≤ b
structure FnW (P : Program) (w : World) (K : PySem.W.Frag) (mg : Str → Option Value) (base : Heap) (k : Nat) (f : Addr) (fd : FuncData) (ps : List Str) (sp : SpW) : Prop where
  len : ∀ vs H J n, sp vs H J n → vs.length = ps.length
  run : ∀ (A : Around) (stk : List Env) (s : Shared) (H : Hp) (args : Args) (us : List Value) (vs : List V) (J : It) (n : Nat), Room (k + 1) A → Env0 P w K mg base A stk s H → BindsTo s fd args (ps.zip us) → Vals vs us → sp vs H J n →
    codeAny (model P w) A (.call (.ref f) args) (fun r s' => match r with | .ok (.ret u) => MadeG P w K mg base k stk J n s u s' | _ => False) s
/-- THE RULE: a generator def (no cells), by what one waking after another does -/
theorem gen_of {P : Program} {w : World} {K : PySem.W.Frag} {mg : Str → Option Value} {base : Heap} {k : Nat} {f : Addr} {name qual : Str} {params : Arguments} {body : List Stmt} {scope : Scope} {dV kV doc pm cdv ct oc : Value} {an od : Option Addr}
    {osl : Array (Option Value)} {N ps : List Str} {sp : SpW} (lk : K.lookup f = some ⟨oc, od, .func (PySem.W.fnOf name qual params body scope dV kV doc pm an cdv ct), osl⟩) (hcd : PySem.W.codeIn K cdv qual = true) (S : GScope N ps scope)
    (hcl : ∀ n, cellsFrom n scope.names [] = []) (hnc : ∀ y ∈ scope.names, y.2 ≠ .cell ∧ y.2 ≠ .free) (len : ∀ vs H J n, sp vs H J n → vs.length = ps.length)
    (hbody : ∀ (stk : List Env) (H : Hp) (vs : List V) (J : It) (n : Nat) (h : Heap) (L : Addr), base.objs.size ≤ L → (∀ b ∈ frs stk, b < L) → GEnv (envOfC qual scope L f cdv) N → LocOk N (envOfC qual scope L f cdv) (start N vs) h → sp vs H J n →
      Ready P w K mg base k stk J (n + 1) 0 [L] h (.fresh (.func body (envOfC qual scope L f cdv)))) :
    FnW P w K mg base k f (PySem.W.fnOf name qual params body scope dV kV doc pm an cdv ct) ps sp := by
  refine ⟨len, fun A stk s H args us vs J n hr e0 hb r hsp => ?_⟩
  have KX : K.In s.heap := e0.mod.kin.keeps fun b o e => (e0.bs b o e).1
  have lim : s.heap.NoLimit := e0.mod.nolimit.keeps fun b o e => (e0.bs b o e).1
  have hkind : ∀ y ∈ ps.zip us, scope.names.lookup y.1 = some .local ∨ (scope.names.lookup y.1 = some .cell ∧ ((cellsFrom (s.heap.objs.size + 1) scope.names []).lookup y.1).isSome = true) := fun ⟨x, v⟩ hy =>
    (S.par x (List.of_mem_zip hy).1).elim .inl fun q => .inr ⟨q, PySem.W.cellsFrom_some _ _ _ (.inl q)⟩
  refine codeAny_call_generator hr.depth (KX _ _ lk) rfl S.co S.gen rfl (PySem.W.codeRec_of KX hcd) (hb _ _ _ _ (wpAny_newFunctionEnv_cells S.kind hkind fun env he s1 x => ?_))
  subst he
  have I1 := inv_startG (E := fun _ _ _ => False) S hr.hd e0 (len _ _ _ _ hsp) r x
  obtain ⟨h1, tk, es1, hk1⟩ := x.done
  have kp1 : ∀ b o, s.heap.get? b = some o → s1.heap.get? b = some o := x.toInCall.keep
  have lt1 : s.heap.objs.size < s1.heap.objs.size := x.toInCall.ns.lt
  refine ⟨lim.keeps kp1, ?_⟩
  have main : ∀ (go : Obj) (nm qn : Value) (tk2 : Nat), go.cls = .type "generator" → go.data = .fields #[.int s1.gens.size 0, nm, qn] → go.slots = #[] → (∀ h : Heap, (h.push go).get? h.objs.size = some go) →
      MadeG P w K mg base k stk J n s (.ref s1.heap.objs.size) { s1 with gens := s1.gens.push (.fresh (.func body (envOfC qual scope s.heap.objs.size f cdv))), toks := tk2, heap := s1.heap.push go } := by
    intro go nm qn tk2 hgc hgd hgs hgp
    have kp2 : ∀ b o, s1.heap.get? b = some o → (s1.heap.push go).get? b = some o := fun b o e => Heap.get?_push_of_some _ e
    obtain ⟨m, hn, hx⟩ := I1.loc
    have hL : s.heap.objs.size ≠ s1.heap.objs.size := Nat.ne_of_lt lt1
    refine ⟨_, _, _, rfl, by rw [es1], AllBare.push (by rw [es1]; exact e0.bare) rfl, fun b o e => kp2 b o (kp1 b o e), ⟨[s.heap.objs.size], rfl, fun z => hL (List.mem_singleton.mp z).symm, ⟨go, nm, qn, hgp _, hgc, hgd, hgs⟩, fun b hb => ?_, _, Array.getElem?_push_size .., fun z => absurd z (Nat.lt_irrefl 0), n + 1, rfl, ?_⟩, fun b hb => ?_⟩
    · rw [List.mem_singleton.mp hb]
      obtain ⟨o, es, ep, ho, hd, _⟩ := hn
      exact ⟨o, kp2 _ _ ho, fun v z => by rw [hd] at z; cases z⟩
    · refine hbody stk H vs J n _ s.heap.objs.size e0.bsz (fun b hb => ?_) ⟨S.kind, rfl, rfl, hcl _, rfl, fun y => ⟨fun z => (hnc _ (PySem.mem_of_lookup z)).1 rfl, fun z => (hnc _ (PySem.mem_of_lookup z)).2 rfl⟩⟩ ⟨I1.len, m, ?_, fun i y v e1 e2 e3 => ?_⟩ hsp
      · obtain ⟨_, o, ho, _⟩ := e0.funs.mem hb
        exact Heap.lt_size ho
      · obtain ⟨o, es, ep, ho, q⟩ := hn
        exact ⟨o, es, ep, kp2 _ _ ho, q⟩
      · obtain ⟨u, ru, l⟩ := hx i y v e1 e2 e3
        refine ⟨u, ru, ?_⟩
        rcases l with l | ⟨_, c, hc, _⟩
        · exact .inl l
        · exact absurd (show (cellsFrom (s.heap.objs.size + 1) scope.names []).lookup y = some c from hc) (by rw [hcl]; simp)
    · rcases List.mem_cons.mp hb with rfl | hb
      · exact Nat.le_of_lt lt1
      · rw [List.mem_singleton.mp hb]; exact Nat.le_refl _
  exact main _ _ _ _ rfl rfl rfl fun h => Heap.get?_push_size _ rfl

section
variable {X : Cx} {k : Nat} {f C : Addr} {fd : FuncData} {ps : List Str} {sp : SpW} {dvs : List V} {ds : List Value} {m : Str} {tg : Expr}
/-- what comes of a call, as a walk -/
theorem made_walk {pins : List (Addr × Obj)} {σ : Sg} {H : Hp} {s s' : Shared} {J : It} {n : Nat} {u : Value} {R : It → Hp → Prop} {E : Value → Shared → Prop} (I : Inv X pins σ H s) (hgo : ∀ i H, J.go i H → i < n) (hst : ∀ i H, J.stop i H → i ≤ n)
    (G : MadeG X.prog X.w X.K X.mg X.base k X.stack J n s u s') (hR : R J H) : Inv X pins σ H s' ∧ wpAny (model X.prog X.w) X.A (pyIter u) (PIEG X (k + 1) pins σ tg R) E s' := by
  obtain ⟨a, g, fpc, rfl, os, hb, kp, ga, yg⟩ := G
  have I1 : Inv X pins σ H s' := I.call' (ch := []) os (Un.kept kp) (I.hok.kept kp) hb fun b z => by simp at z
  have T := runG (P := X.prog) (w := X.w) (K := X.K) (mg := X.mg) (base := X.base) (k := k) (stk := X.stack) (J := J) (tg := tg) (n := n) (a := a) (g := g) hgo hst
  refine ⟨I1, T.self X.A 0 fpc s' _ _ ga ⟨a, fpc, _, J, H, rfl, I1, T, ga, fun b hb => I.fpOk (yg b hb) (I.hok.fresh (yg b hb)), hR⟩⟩
/-- the walk over o.m() -/
def tWMeth (C : Addr) (m : Str) (sp : SpW) (dvs : List V) (ta : TE) : TI := fun σ H R => ta σ H fun x H1 => ∃ a dx fs J n, x = .ref a ∧ H1 a = some (.ins C dx fs) ∧ fs.lookup m = none ∧ (∀ i H, J.go i H → i < n) ∧ (∀ i H, J.stop i H → i ≤ n) ∧ sp (x :: dvs) H1 J n ∧ R J H1
theorem pig_meth0 {o : Expr} {ta : TE} {pl : Sem Bool} {apos pos : Pos} (he : PE X o ta) (c : Cls X.K C) (hm : Meth X.K C m f) (F : FnW X.prog X.w X.K X.mg X.base k f fd ps sp) (hr : Room (k + 1) X.A) (hb : Binds X.K fd ps ds) (hd : Vals dvs ds)
    (ht : eval (.Call (.Attribute o m apos) [] [] pos) X.env = (do
      let ov ← eval o X.env
      standAt apos.atName
      let (f, first) ← holding [ov] (getMethod ov m pl)
      callWith pos f first (backTo pos (starEach [] X.env)) (backToKw pos (keywordEach [] X.env))) := by rfl) :
    PIG X (k + 1) tg (.Call (.Attribute o m apos) [] [] pos) (tWMeth C m sp dvs ta) := by
  refine ⟨fun pins s σ H R I h => PySem.W.methodCall_KW (pl := pl) (thn (he.run pins s σ H _ I h) fun u s1 ⟨x, H1, I1, rx, a, dx, fs, J, n, ex, ea, l, hgo, hst, q, hR⟩ => ?_) ht⟩
  subst ex
  obtain rfl : u = Value.ref a := rx
  refine getmeth_ok I1 ea c hm l (PySem.W.callWith_K0 (first := [.ref a]) I1.kIn hm.kp ?_)
  have r1 : Vals [V.ref a] [Value.ref a] := .cons rfl .nil
  have r2 : Vals ([V.ref a] ++ dvs) ([Value.ref a] ++ ds) := r1.append hd
  have hl : ([Value.ref a] ++ ds).length = ps.length := r2.length ▸ F.len _ _ _ _ q
  refine wpAny_call (codeAny_mono (F.run X.A X.stack s1 H1 ⟨[.ref a], []⟩ ([.ref a] ++ ds) ([.ref a] ++ dvs) J n hr I1.env0 (hb s1 [.ref a] I1.kIn hl) r2 q) fun r s' hq => ?_)
  cases r with
  | error e => exact hq.elim
  | ok fl =>
    cases fl with
    | ret u => exact (made_walk I1 hgo hst hq hR).2
    | _ => exact hq.elim
end
end Tw
/-! Ggw: what is gone from the heap does not come back. -/
namespace Tw
open PySem PyProof.Rows L2 GenW
structure Grow (h h' : Heap) : Prop where
  size : h.objs.size ≤ h'.objs.size
  gone : ∀ b, b < h.objs.size → h.get? b = none → h'.get? b = none
theorem Grow.refl (h : Heap) : Grow h h := ⟨Nat.le_refl _, fun _ _ e => e⟩
theorem Grow.trans {a b c : Heap} (x : Grow a b) (y : Grow b c) : Grow a c := ⟨Nat.le_trans x.size y.size, fun d hd e => y.gone d (Nat.lt_of_lt_of_le hd x.size) (x.gone d hd e)⟩
theorem Grow.push (h : Heap) (o : Obj) : Grow h (h.push o) := by
  refine ⟨by rw [Heap.size_push]; exact Nat.le_succ _, fun b hb e => ?_⟩
  obtain ⟨objs, l⟩ := h
  have hb : b < objs.size := hb
  show (match (objs.push o)[b]? with | some ⟨_, _, .freed, _⟩ => none | o => o) = none
  rw [Array.getElem?_push_lt hb, ← Array.getElem?_eq_getElem hb]
  exact e
theorem Grow.update {h : Heap} {a : Addr} (f : Obj → Obj) (ha : (h.get? a).isSome) : Grow h (h.update a f) := by
  refine ⟨?_, fun b hb e => ?_⟩
  · obtain ⟨objs, l⟩ := h
    show objs.size ≤ (objs.modify a f).size
    rw [Array.size_modify]; exact Nat.le_refl _
  · have hne : a ≠ b := fun z => by rw [z, e] at ha; cases ha
    obtain ⟨objs, l⟩ := h
    show (match (objs.modify a f)[b]? with | some ⟨_, _, .freed, _⟩ => none | o => o) = none
    rw [Array.getElem?_modify, if_neg hne]
    exact e
theorem runs_grow {M : Model} {Γ : Ctx} {p : Pos} {t : Sem PySem.Fin} {fs : List Frame} {s s' : Shared} {e : End} (h : Runs M Γ p t fs s e s') : Grow s.heap s'.heap := by
  induction h <;> first
    | exact Grow.refl _
    | assumption
    | exact (Grow.update _ (by assumption)).trans (by assumption)
    | exact (Grow.push _ _).trans (by assumption)
    | exact Grow.trans (by assumption) (by assumption)
theorem stp_grow {M : Model} {A : Around} {T : End → Shared → Prop} {c : Code} {t : Sem PySem.Fin} {fs : List Frame} {s : Shared} (h : Step M A (fun e s' => Grow s.heap s'.heap → T e s') c t fs s) : Step M A T c t fs s := by
  rintro Γ p rfl hΓ
  obtain ⟨e, s', hr, he⟩ := h Γ p rfl hΓ
  exact ⟨e, s', hr, he (runs_grow hr)⟩
end Tw
/-! Gfy: a generator whose body ends with «for target in iter: yield (e, ..)». -/
namespace Tw
open PySem PyProof.Rows L2 GenW

section
variable {P : Program} {w : World} {K : PySem.W.Frag} {mg : Str → Option Value} {base : Heap} {k : Nat} {stk : List Env} {A : Around} {s s' : Shared} {H pd G : Hp} {fp : List Addr} {h : Heap} {N : List Str} {env : Env} {σ σ' : Sg} {pins : List (Addr × Obj)}
theorem stp_mono {M : Model} {T T' : End → Shared → Prop} {c : Code} {t : Sem PySem.Fin} {fs : List Frame} (h : Step M A T c t fs s) (hT : ∀ e s', T e s' → T' e s') : Step M A T' c t fs s := by
  rintro Γ p rfl hΓ
  obtain ⟨e, s', hr, he⟩ := h Γ p rfl hΓ
  exact ⟨e, s', hr, hT e s' he⟩
/-- what was no thing of the waking is younger than it -/
theorem newer (W : Wk P w K mg base k stk A s H fp h) (Z : Sleep P w base N env stk σ fp pd h) (I : Inv (gX P w K mg base N env stk A s (mix s H env.locals fp pd)) pins σ' G s') (sm : Same (mix s H env.locals fp pd) G) (gr : Grow s.heap s'.heap) {b : Addr} {o : Obj}
    (hb : b ∉ fp) (hn : mix s H env.locals fp pd b = none) (e : s'.heap.get? b = some o) (hG : (G b = none ∧ env.locals ≤ b) ∨ ∃ u, G b = some u ∧ plain u) : s.heap.objs.size ≤ b := by
  refine Nat.le_of_not_lt fun hlt => ?_
  have hH := mix_none hb hn
  cases q : s.heap.get? b with
  | none => rw [gr.gone b hlt q] at e; cases e
  | some o' =>
    by_cases hl : env.locals ≤ b
    · rw [mix_frz hb hH hl q] at hn
      cases hn
    · rcases hG with ⟨_, z⟩ | ⟨u, z, _⟩
      · exact hl z
      · have := I.base.free b o' (cut_get.mpr ⟨Nat.lt_of_not_le hl, q⟩) hn (by intro y; exact absurd (show b ∈ ([] : List Addr) from y) (by simp))
        rw [z] at this; cases this
end
/-- the consumer's walk over tuples: Pre is asked of the first turn, Rt tells the i-th tuple -/
def Jt (n : Nat) (Pre : Hp → Prop) (Rt : Nat → List V → Prop) : It :=
  ⟨fun i H => i < n ∧ (i = 0 → Pre H), fun i H x H' => ∃ T xs, x = .ref T ∧ H T = none ∧ Same H H' ∧ H' T = some (.tup xs) ∧ Rt i xs, fun i H => i = n ∧ (i = 0 → Pre H)⟩
section
variable {P : Program} {w : World} {K : PySem.W.Frag} {mg : Str → Option Value} {base : Heap} {k : Nat} {stk : List Env} {N : List Str} {env : Env} {n : Nat} {Pre : Hp → Prop} {Rt : Nat → List V → Prop} {tgt e : Expr} {yp yq : Pos} {g : TG} {te : TE}
/-- the loop's own: its iterator, what is known of the names and the data at each turn -/
structure Loop (P : Program) (w : World) (K : PySem.W.Frag) (mg : Str → Option Value) (base : Heap) (k : Nat) (stk : List Env) (N : List Str) (env : Env) (n : Nat) (Rt : Nat → List V → Prop) (tgt e : Expr) (g : TG) (te : TE) (J : It) (fpT : List Addr) (it : Addr) (tn : Nat → Heap → Prop) (dl : List Addr)
    (Sd : Nat → Sg → Hp → Prop) : Prop where
  turn : Turn P w K tgt J fpT it tn
  hg : ∀ A s M, PG (gX P w K mg base N env stk A s M) tgt g
  he : ∀ A s M, Room k A → PE (gX P w K mg base N env stk A s M) e te
  data : ∀ i σ G, Sd i σ G → ∀ b ∈ dl, ∃ u, G b = some u ∧ plain u
  only : ∀ i σ G G', Sd i σ G → (∀ b ∈ dl, G' b = G b) → Sd i σ G'
  step : ∀ i σ G, i < n → Sd i σ G → J.go i G ∧ ∀ x G1, J.yld i G x G1 → g x σ G1 fun σ2 G2 => te σ2 G2 fun y G3 => Sd (i + 1) σ2 G3 ∧ Same G G3 ∧ ∃ T xs, y = .ref T ∧ G T = none ∧ G3 T = some (.tup xs) ∧ Rt i xs
  stop : ∀ σ G, Sd n σ G → J.stop n G
  yldS : ∀ i G x G1, J.yld i G x G1 → Same G G1
/-- what stands while the generator sleeps ahead of turn i -/
structure Stand (P : Program) (w : World) (base : Heap) (stk : List Env) (N : List Str) (env : Env) (fpT : List Addr) (tn : Nat → Heap → Prop) (dl : List Addr) (Sd : Nat → Sg → Hp → Prop) (i : Nat) (σ : Sg) (fp : List Addr) (pd : Hp) (h : Heap) : Prop where
  Z : Sleep P w base N env stk σ fp pd h
  sd : Sd i σ pd
  tn : tn i h
  ft : ∀ b ∈ fpT, b ∈ fp ∧ pd b = none ∧ b ≠ env.locals ∧ b ∉ frs stk
  fd : ∀ b ∈ dl, b ∈ fp
/-- what a waking ends with -/
def TB (P : Program) (w : World) (K : PySem.W.Frag) (mg : Str → Option Value) (base : Heap) (k : Nat) (stk : List Env) (n : Nat) (Pre : Hp → Prop) (Rt : Nat → List V → Prop) (f i : Nat) (s : Shared) (H : Hp) (fp : List Addr) : End → Shared → Prop :=
  Told (fun v gs' s' => i < n ∧ ∃ x H' fp', Prom P w stk s H fp s' H' ∧ Mine s fp s' H' fp' ∧ RelV x v ∧ (Jt n Pre Rt).yld i H x H' ∧ gs'.bare = true ∧ sleeps gs' ∧ Ready P w K mg base k stk (Jt n Pre Rt) f (i + 1) fp' s'.heap gs')
    fun s' => i = n ∧ ∃ H', Prom P w stk s H fp s' H'
/-- the frame that the loop comes back to -/
abbrev lpFrame (env : Env) (body : List Stmt) (K0 : Flow → Sem PySem.Fin) (J0 : Value → Sem PySem.Fin) (p : Pos) : Frame := .ret (fromLoop env K0 J0 id id) none false [] (.func body env) p []
theorem ready_of {f i : Nat} {fp : List Addr} {h : Heap} {gs : GenState} (hh : ∀ A s H, Wk P w K mg base k stk A s H fp h → (i = 0 → Pre H) → StepOf (model P w) A (TB P w K mg base k stk n Pre Rt f i s H fp) gs s) :
    Ready P w K mg base k stk (Jt n Pre Rt) (f + 1) i fp h gs := by
  have mono : ∀ {A : Around} {T T' : End → Shared → Prop} {s : Shared}, StepOf (model P w) A T gs s → (∀ e s', T e s' → T' e s') → StepOf (model P w) A T' gs s := fun {A T T' s} h hT => by
    cases gs with
    | fresh c => exact stp_mono h hT
    | suspended k₀ l₀ c₀ p₀ fs₀ cl => exact stp_mono h hT
    | _ => exact h
  intro A s H W
  refine ⟨fun go => mono (hh A s H W go.2) fun e s' z => ?_, fun st => mono (hh A s H W st.2) fun e s' z => ?_⟩
  · cases e with
    | susp v g l kk c p fs => exact ⟨z.1, z.2.2⟩
    | ret r =>
      cases r with
      | error x => exact z.elim
      | ok fl =>
        cases fl with
        | ret v =>
          cases v with
          | none =>
            have hz : i = n := z.1
            have := go.1
            omega
          | _ => exact z.elim
        | _ => exact z.elim
  · cases e with
    | susp v g l kk c p fs =>
      have hz : i < n := z.2.1
      have := st.1
      omega
    | ret r =>
      cases r with
      | error x => exact z.elim
      | ok fl =>
        cases fl with
        | ret v =>
          cases v with
          | none => exact z.2
          | _ => exact z.elim
        | _ => exact z.elim
variable {J : It} {fpT : List Addr} {it : Addr} {tn : Nat → Heap → Prop} {dl : List Addr} {Sd : Nat → Sg → Hp → Prop} {body : List Stmt}
/-- the loop runs on, ahead of turn i; the waking that this belongs to began at s, H with fp, pd -/
theorem loop_on (Lp : Loop P w K mg base k stk N env n Rt tgt e g te J fpT it tn dl Sd) (hco : env.scope.isCoroutine = false) (hin : interactive env = false) {K0 : Flow → Sem PySem.Fin} {J0 : Value → Sem PySem.Fin} (hK0 : K0 .next = leafOf (.ok (.ret .none))) {pp : Pos} {f i : Nat}
    (next : i < n → ∀ σ fp pd h k₀ l p cl, Stand P w base stk N env fpT tn dl Sd (i + 1) σ fp pd h → (∀ b ∈ fp, b ∈ env.locals :: (fpT ++ dl)) →
      (∀ A' T' s'', Step (model P w) A' T' (.forLoop tgt (.ref it) [.Expr (.Yield (some e) yp) yq] [] env) (.pure (.again (.forLoop tgt (.ref it) [.Expr (.Yield (some e) yp) yq] [] env))) [lpFrame env body K0 J0 pp] s'' → Step (model P w) A' T' (.forLoop tgt (.ref it) [.Expr (.Yield (some e) yp) yq] [] env) (k₀ (.send .none)) [lpFrame env body K0 J0 pp] s'') →
      Ready P w K mg base k stk (Jt n Pre Rt) f (i + 1) fp h (.suspended k₀ l (.forLoop tgt (.ref it) [.Expr (.Yield (some e) yp) yq] [] env) p [lpFrame env body K0 J0 pp] cl))
    {A : Around} {s : Shared} {H pd : Hp} {fp : List Addr} {h : Heap} {σ0 : Sg} (W : Wk P w K mg base k stk A s H fp h) (Z : Sleep P w base N env stk σ0 fp pd h) (hi : i ≤ n)
    {s1 : Shared} {σ : Sg} {G : Hp} (I : Inv (gX P w K mg base N env stk A s (mix s H env.locals fp pd)) [] σ G s1) (sm : Same (mix s H env.locals fp pd) G) (sd : Sd i σ G) (ht : tn i s1.heap) (hf : ∀ b ∈ fpT, FpOk (gX P w K mg base N env stk A s (mix s H env.locals fp pd)) [] G b)
    (hdl : ∀ b ∈ dl, b ∈ fp ∨ mix s H env.locals fp pd b = none) (hfp : ∀ b ∈ fp, b ∈ env.locals :: (fpT ++ dl)) :
    Step (model P w) A (fun e s' => Grow s.heap s'.heap → TB P w K mg base k stk n Pre Rt f i s H fp e s') (.forLoop tgt (.ref it) [.Expr (.Yield (some e) yp) yq] [] env) ((model P w).den (.forLoop tgt (.ref it) [.Expr (.Yield (some e) yp) yq] [] env)) [lpFrame env body K0 J0 pp] s1 := by
  have hov : A.over (.forLoop tgt (.ref it) [.Expr (.Yield (some e) yp) yq] [] env) [lpFrame env body K0 J0 pp] = (gX P w K mg base N env stk A s (mix s H env.locals fp pd)).A := (over_loop rfl rfl).trans over_func
  have hL : env.locals ≤ s.heap.objs.size := by
    obtain ⟨_, m, ⟨o, _, _, ho, _⟩, _⟩ := Z.loc
    exact Nat.le_of_lt (Heap.lt_size (W.keep _ Z.here _ ho))
  refine stp_forLoop ?_
  rw [hov]
  by_cases hlt : i < n
  · obtain ⟨go, st⟩ := Lp.step i σ G hlt sd
    refine wpAny_mono (Lp.turn.item (gX P w K mg base N env stk A s (mix s H env.locals fp pd)) rfl rfl rfl rfl i [] s1 σ G Nx I hf ht go) (fun r s2 ⟨u, hr, h2⟩ => ?_) fun _ _ z => z
    subst hr
    refine wpAny_mono h2 (fun _ s3 ⟨x, G3, I3, r3, y3, t3, n3⟩ => ?_) fun _ _ z => z
    have J3 := I3.pinned (fun b hb => ⟨n3 b hb, (hf b hb).2⟩) (Lp.turn.obj _ _ t3)
    refine wpAny_mono ((Lp.hg A s _).run _ s3 σ G3 x u _ J3 r3 (st x G3 y3)) (fun _ s4 ⟨σ4, G4, I4, q4⟩ => ?_) fun _ _ z => z
    intro J1
    refine stp_cons (stp_Yield rfl rfl hco hin ?_)
    rw [hov]
    refine wpAny_mono ((Lp.he A s _ W.room).run _ s4 σ4 G4 _ I4 q4) (fun v s5 ⟨y, G5, I5, r5, sd5, sm5, T, xs, hy, hT, gT, hR⟩ => ?_) fun _ _ z => z
    intro l kk p hk
    have pinT : ∀ b ∈ fpT, ∀ o, s3.heap.get? b = some o → s5.heap.get? b = some o ∧ G5 b = none := fun b hb o eo =>
      let z := I5.pin (b, o) (List.mem_append_right _ (List.mem_append_right _ (mem_pinsAt hb eo)))
      ⟨z.1, z.2.1⟩
    have noT : ∀ b ∈ fpT, G5 b = none := fun b hb => by
      obtain ⟨o, eo, _⟩ := Lp.turn.obj _ _ t3 b hb
      exact (pinT b hb o eo).2
    have dat := Lp.data (i + 1) σ4 G5 sd5
    intro hgr
    have s05 := sm.trans sm5
    have newT : ∀ b ∈ fpT, (b ∈ fp ∨ s.heap.objs.size ≤ b) ∧ env.locals ≤ b := fun b hb => by
      obtain ⟨o, eo, _⟩ := Lp.turn.obj _ _ t3 b hb
      obtain ⟨z0, z1, z2, z3, _⟩ := hf b hb
      have z3 : env.locals ≤ b := z3.elim (fun y => absurd (show b ∈ ([] : List Addr) from y) (by simp)) fun y => by
        have : (cut s env.locals).heap.objs.size ≤ b := y
        rwa [cut_size hL] at this
      by_cases hm : b ∈ fp
      · exact ⟨.inl hm, z3⟩
      · exact ⟨.inr (newer W Z I5 s05 hgr hm (sm.free z0) (pinT b hb o eo).1 (.inl ⟨noT b hb, z3⟩)), z3⟩
    have newD : ∀ b ∈ dl, (b ∈ fp ∨ s.heap.objs.size ≤ b) ∧ env.locals ≤ b := fun b hb => by
      obtain ⟨u, e1, e2⟩ := dat b hb
      obtain ⟨o, eo⟩ := there (I5.hok b u e1)
      rcases hdl b hb with z | z
      · exact ⟨.inl z, Z.young b z⟩
      · by_cases hm : b ∈ fp
        · exact ⟨.inl hm, Z.young b hm⟩
        · have := newer W Z I5 s05 hgr hm z eo (.inr ⟨u, e1, e2⟩)
          exact ⟨.inr this, Nat.le_trans hL this⟩
    have nw : ∀ b ∈ env.locals :: (fpT ++ dl), (b ∈ fp ∨ s.heap.objs.size ≤ b) ∧ ∀ u, G5 b = some u → plain u := fun b hb => by
      rcases List.mem_cons.mp hb with rfl | hb
      · exact ⟨.inl Z.here, fun u z => by rw [show G5 env.locals = none from I5.free] at z; cases z⟩
      · rcases List.mem_append.mp hb with hb | hb
        · exact ⟨(newT b hb).1, fun u z => by rw [noT b hb] at z; cases z⟩
        · obtain ⟨u, e1, e2⟩ := dat b hb
          exact ⟨(newD b hb).1, fun v z => by rw [e1] at z; cases z; exact e2⟩
    obtain ⟨pr, ow, pass⟩ := slept W Z I5 s05 hfp nw
    have hT0 : T ∉ fp := fun hm => (nw T (hfp T hm)).2 _ gT
    have mine : Mine s fp s5 (out s H env.locals (env.locals :: (fpT ++ dl)) G5) (env.locals :: (fpT ++ dl)) := fun b hb => by
      refine ⟨ow b hb, (nw b hb).1, ?_⟩
      rcases List.mem_cons.mp hb with rfl | hb
      · obtain ⟨m, ⟨o, es, ep, ho, hd, _⟩, _⟩ := I5.loc
        exact ⟨o, ho, fun v z => by rw [hd] at z; cases z⟩
      · rcases List.mem_append.mp hb with hb | hb
        · obtain ⟨o, eo, d⟩ := Lp.turn.obj _ _ t3 b hb
          exact ⟨o, (pinT b hb o eo).1, d⟩
        · obtain ⟨u, e1, e2⟩ := dat b hb
          exact plain_obj (I5.hok b u e1) e2
    refine ⟨rfl, hlt, y, _, env.locals :: (fpT ++ dl), pr, mine, r5, ⟨T, xs, hy, mix_none hT0 (sm.free hT), pr.same, pass T _ (fun v z => by cases z) (fun z => z) gT, hR⟩, rfl, trivial, ?_⟩
    have nd : ∀ b, G5 b = none → b ∉ dl := fun b z hm => by
      obtain ⟨u, e1, _⟩ := dat b hm
      rw [z] at e1; cases e1
    let pd' : Hp := fun b => if b ∈ dl then G5 b else none
    have pdy : ∀ b, b ∈ dl → pd' b = G5 b := fun b hb => if_pos hb
    have pdn : ∀ b, b ∉ dl → pd' b = none := fun b hb => if_neg hb
    refine next hlt σ4 (env.locals :: (fpT ++ dl)) pd' s5.heap kk l p _ ⟨⟨Z.genv, Z.old, Z.frs, List.mem_cons_self, fun b hb => ?_, ⟨I5.len, I5.loc⟩, pdn _ (nd _ I5.free), fun b u e => ?_⟩, Lp.only (i + 1) σ4 G5 pd' sd5 pdy, Lp.turn.keep _ _ _ t3 fun b hb o eo => (pinT b hb o eo).1, fun b hb => ⟨List.mem_cons_of_mem _ (List.mem_append_left _ hb), pdn _ (nd _ (noT b hb)), (hf b hb).2.1, (hf b hb).2.2.1⟩, fun b hb => List.mem_cons_of_mem _ (List.mem_append_right _ hb)⟩ (fun b hb => hb) fun A' T' s'' z => hk A' T' s'' z
    · rcases List.mem_cons.mp hb with rfl | hb
      · exact Nat.le_refl _
      · rcases List.mem_append.mp hb with hb | hb
        · exact (newT b hb).2
        · exact (newD b hb).2
    · by_cases hb : b ∈ dl
      · have e' := (pdy b hb).symm.trans e
        obtain ⟨u', e1, e2⟩ := dat b hb
        rw [e'] at e1
        cases e1
        exact ⟨List.mem_cons_of_mem _ (List.mem_append_right _ hb), e2, plain_stay (I5.hok b u e') e2 fun o z => z⟩
      · rw [pdn b hb] at e; cases e
  · have hin' : i = n := by omega
    subst hin'
    refine wpAny_mono (Lp.turn.done (gX P w K mg base N env stk A s (mix s H env.locals fp pd)) rfl rfl rfl rfl i [] s1 σ G Nx I hf ht (Lp.stop σ G sd)) (fun r s2 ⟨hr, I2⟩ => ?_) fun _ _ z => z
    subst hr
    refine stp_leaf (.ok .next) ?_
    show Step _ _ _ _ (K0 .next) [] s2
    rw [hK0]
    refine stp_end (.ok (.ret .none)) fun _ => ⟨rfl, _, (slept W Z I2 sm (fun b hb => hb) fun b hb => ⟨.inl hb, fun u z => ?_⟩).1⟩
    rcases List.mem_cons.mp (hfp b hb) with rfl | hb
    · rw [show G env.locals = none from I2.free] at z; cases z
    · rcases List.mem_append.mp hb with hb | hb
      · rw [(hf b hb).1] at z; cases z
      · obtain ⟨v, e1, e2⟩ := Lp.data i σ G sd b hb
        rw [e1] at z; cases z; exact e2
/-- asleep ahead of turn i -/
theorem ready_on (Lp : Loop P w K mg base k stk N env n Rt tgt e g te J fpT it tn dl Sd) (hco : env.scope.isCoroutine = false) (hin : interactive env = false) {K0 : Flow → Sem PySem.Fin} {J0 : Value → Sem PySem.Fin} (hK0 : K0 .next = leafOf (.ok (.ret .none))) {pp : Pos} :
    ∀ (f i : Nat), f + i = n + 1 → 0 < i → i ≤ n → ∀ σ fp pd h k₀ l p cl, Stand P w base stk N env fpT tn dl Sd i σ fp pd h → (∀ b ∈ fp, b ∈ env.locals :: (fpT ++ dl)) →
      (∀ A' T' s'', Step (model P w) A' T' (.forLoop tgt (.ref it) [.Expr (.Yield (some e) yp) yq] [] env) (.pure (.again (.forLoop tgt (.ref it) [.Expr (.Yield (some e) yp) yq] [] env))) [lpFrame env body K0 J0 pp] s'' → Step (model P w) A' T' (.forLoop tgt (.ref it) [.Expr (.Yield (some e) yp) yq] [] env) (k₀ (.send .none)) [lpFrame env body K0 J0 pp] s'') →
      Ready P w K mg base k stk (Jt n Pre Rt) f i fp h (.suspended k₀ l (.forLoop tgt (.ref it) [.Expr (.Yield (some e) yp) yq] [] env) p [lpFrame env body K0 J0 pp] cl) := by
  intro f
  induction f with
  | zero => intro i h1 _ h3; omega
  | succ f ih =>
    intro i h1 h2 h3 σ fp pd h k₀ l p cl S hfp hk
    refine ready_of fun A s H W _ => ?_
    show Step (model P w) A _ (.forLoop tgt (.ref it) [.Expr (.Yield (some e) yp) yq] [] env) (k₀ (.send .none)) [lpFrame env body K0 J0 pp] s
    have hL : env.locals ≤ s.heap.objs.size := by
      obtain ⟨_, m, ⟨o, _, _, ho, _⟩, _⟩ := S.Z.loc
      exact Nat.le_of_lt (Heap.lt_size (W.keep _ S.Z.here _ ho))
    refine stp_grow (hk _ _ _ (stp_again rfl (loop_on Lp hco hin hK0 (fun hlt σ' fp' pd' h' k' l' p' cl' S' hf' hk' => ih (i + 1) (by omega) (Nat.succ_pos i) hlt σ' fp' pd' h' k' l' p' cl' S' hf' hk') W S.Z h3 (wake W S.Z) (Same.refl _) (Lp.only i σ pd _ S.sd fun b hb => mix_own (S.fd b hb))
      (Lp.turn.keep _ _ _ S.tn fun b hb o eo => W.keep b (S.ft b hb).1 o eo) (fun b hb => ?_) (fun b hb => .inl (S.fd b hb)) hfp)))
    obtain ⟨z1, z2, z3, z4⟩ := S.ft b hb
    exact ⟨(mix_own z1).trans z2, z3, z4, .inr (Nat.le_trans (Nat.le_of_eq (cut_size hL)) (S.Z.young b z1)), fun x c y => (by
      have y : env.cells.lookup x = some c := y
      rw [S.Z.genv.cells] at y
      cases y), fun p hp => absurd (show p ∈ ([] : List (Addr × Obj)) ++ [] from hp) (by simp)⟩
/-- a loop's reading, but for its iterator -/
structure LoopS (n : Nat) (Rt : Nat → List V → Prop) (g : TG) (te : TE) (J : It) (dl : List Addr) (Sd : Nat → Sg → Hp → Prop) : Prop where
  data : ∀ i σ G, Sd i σ G → ∀ b ∈ dl, ∃ u, G b = some u ∧ plain u
  only : ∀ i σ G G', Sd i σ G → (∀ b ∈ dl, G' b = G b) → Sd i σ G'
  step : ∀ i σ G, i < n → Sd i σ G → J.go i G ∧ ∀ x G1, J.yld i G x G1 → g x σ G1 fun σ2 G2 => te σ2 G2 fun y G3 => Sd (i + 1) σ2 G3 ∧ Same G G3 ∧ ∃ T xs, y = .ref T ∧ G T = none ∧ G3 T = some (.tup xs) ∧ Rt i xs
  stop : ∀ σ G, Sd n σ G → J.stop n G
  yldS : ∀ i G x G1, J.yld i G x G1 → Same G G1
/-- not begun: a statement, then the loop -/
theorem ready_first {st1 : Stmt} {t1 : TS} {iter : Expr} {wi : TI} {pos : Pos} {h : Heap} {σ0 : Sg} (h1 : ∀ A s M, Room k A → PS (gX P w K mg base N env stk A s M) st1 t1) (hi : ∀ A s M, Room k A → PI (gX P w K mg base N env stk A s M) tgt iter wi)
    (hg : ∀ A s M, PG (gX P w K mg base N env stk A s M) tgt g) (he : ∀ A s M, Room k A → PE (gX P w K mg base N env stk A s M) e te) (hs : ∀ x, foldedSetIterable iter env x = pure x) (hco : env.scope.isCoroutine = false) (hin : interactive env = false)
    (Z : Sleep P w base N env stk σ0 [env.locals] (fun _ => none) h)
    (hpre : ∀ H M, Pre H → Same H M → t1 { nx := fun σ1 G1 => wi σ1 G1 fun J G2 => Same M G2 ∧ ∃ dl Sd, LoopS n Rt g te J dl Sd ∧ Sd 0 σ1 G2 ∧ ∀ b ∈ dl, M b = none, rt := fun _ _ => False } σ0 M) :
    Ready P w K mg base k stk (Jt n Pre Rt) (n + 1) 0 [env.locals] h (.fresh (.func [st1, .For tgt iter [.Expr (.Yield (some e) yp) yq] [] pos] env)) := by
  refine ready_of fun A s H W hp => ?_
  have hov : A.over (.func [st1, .For tgt iter [.Expr (.Yield (some e) yp) yq] [] pos] env) [] = (gX P w K mg base N env stk A s (mix s H env.locals [env.locals] fun _ => none)).A := over_func
  have sHM : Same H (mix s H env.locals [env.locals] fun _ => none) := fun b u z => mix_old (fun hm => by rw [List.mem_singleton.mp hm, W.no _ List.mem_cons_self] at z; cases z) z
  show Step (model P w) A _ (.func [st1, .For tgt iter [.Expr (.Yield (some e) yp) yq] [] pos] env) _ [] s
  refine stp_grow (stp_func fun J0 => stp_cons (stp_wrap ?_))
  rw [hov]
  refine wpAny_mono ((h1 A s _ W.room).run [] s σ0 _ _ (wake W Z) (hpre H _ (hp rfl) sHM)) (fun f s1 hf => ?_) fun _ _ z => z
  cases f with
  | brk => obtain ⟨_, _, _, q⟩ := hf; exact q.elim
  | cont => obtain ⟨_, _, _, q⟩ := hf; exact q.elim
  | ret v => obtain ⟨_, _, _, _, _, q⟩ := hf; exact q.elim
  | next =>
    obtain ⟨σ1, G1, I1, q1⟩ := hf
    refine stp_cons (stp_For hs ?_)
    rw [hov]
    refine wpAny_mono ((hi A s _ W.room).run [] s1 σ1 G1 _ I1 q1) (fun v s2 h2 => wpAny_mono h2 (fun u s3 h3 => ?_) fun _ _ z => z) fun _ _ z => z
    obtain ⟨it, fpT, tn, J, G2, rfl, I2, T, t2, f2, sm, dl, Sd, LS, sd, hd⟩ := h3
    intro p
    have Lp : Loop P w K mg base k stk N env n Rt tgt e g te J fpT it tn dl Sd := ⟨T, hg, he, LS.data, LS.only, LS.step, LS.stop, LS.yldS⟩
    exact loop_on Lp hco hin rfl (fun hlt σ' fp' pd' h' k' l' p' cl' S' hf' hk' => ready_on Lp hco hin rfl n 1 (by omega) (Nat.lt_succ_self 0) hlt σ' fp' pd' h' k' l' p' cl' S' hf' hk') W Z (Nat.zero_le n) I2 sm sd t2 f2 (fun b hb => .inr (hd b hb)) fun b hb => by
      rw [List.mem_singleton.mp hb]
      exact List.mem_cons_self
end
/-- a comprehension over such a walk -/
theorem lcG_jt {n : Nat} {Pre : Hp → Prop} {Rt : Nat → List V → Prop} {g : TG} {tt : TT} {te : TE} {vs : List Nat} {σ : Sg} {H1 : Hp} {D : Addr} {Qd : Hp → Prop} (Pv : Nat → Hp → Prop) (h0 : Pv 0 (upd H1 D (.lst []))) (hp : ∀ H, Pv 0 H → Pre H)
    (hs : ∀ i T xs H H', i < n → Pv i H → Same H H' → H T = none → H' T = some (.tup xs) → Rt i xs → g (.ref T) (wipe σ vs) H' fun σ2 H2 => wipe σ2 vs = wipe σ vs ∧ tt σ2 H2 fun b H3 =>
      if b = true then te σ2 H3 fun y H4 => ∃ acc, H4 D = some (.lst acc) ∧ acc.length < sizeLine ∧ Pv (i + 1) (upd H4 D (.lst (acc ++ [y]))) else Pv (i + 1) H3)
    (hd : ∀ H H', Pv n H → Same H H' → Qd H') :
    ∃ W : Nat → Nat → Hp → Prop, (∃ m, W 0 m (upd H1 D (.lst []))) ∧ ∀ i m H, W i m H →
      ((Jt n Pre Rt).stop i H ∧ ∀ H', Same H H' → Qd H') ∨ ((Jt n Pre Rt).go i H ∧ ∃ Nx : Hp → Prop, (∀ H', Nx H' → ∃ m', m' < m ∧ W (i + 1) m' H') ∧ ∀ x H', (Jt n Pre Rt).yld i H x H' → g x (wipe σ vs) H' fun σ2 H2 => wipe σ2 vs = wipe σ vs ∧ tt σ2 H2 fun b H3 =>
        if b = true then te σ2 H3 fun y H4 => ∃ acc, H4 D = some (.lst acc) ∧ acc.length < sizeLine ∧ Nx (upd H4 D (.lst (acc ++ [y]))) else Nx H3) := by
  refine ⟨fun i m H => m = n - i ∧ i ≤ n ∧ Pv i H, ⟨n, rfl, Nat.zero_le _, h0⟩, ?_⟩
  rintro i m H ⟨rfl, hi, p⟩
  have pre : i = 0 → Pre H := fun e => hp H (by rw [← e]; exact p)
  by_cases hlt : i < n
  · refine .inr ⟨⟨hlt, pre⟩, Pv (i + 1), fun H' p' => ⟨n - (i + 1), by omega, rfl, hlt, p'⟩, fun x H' y => ?_⟩
    obtain ⟨T, xs, rfl, h1, h2, h3, h4⟩ := y
    exact hs i T xs H H' hlt p h2 h1 h3 h4
  · have e : i = n := by omega
    exact .inl ⟨⟨e, pre⟩, fun H' s => hd H H' (e ▸ p) s⟩
theorem jt_go {n : Nat} {Pre : Hp → Prop} {Rt : Nat → List V → Prop} : ∀ i H, (Jt n Pre Rt).go i H → i < n := fun _ _ h => h.1
theorem jt_st {n : Nat} {Pre : Hp → Prop} {Rt : Nat → List V → Prop} : ∀ i H, (Jt n Pre Rt).stop i H → i ≤ n := fun _ _ h => Nat.le_of_eq h.1
end Tw
/-! Tw: a built-in type's method where the reading must not name the block. -/
namespace Tw
open PySem PySem.Spec PyProof.Rows L2 He
theorem pe_bmB {X : Cx} (K : PySem.W.Frag) {ty : String} {nm : Str} {bid : String} {rel : V → List V → Hp → VK → Prop} {ob e : Expr} {more : List Expr} {rd : TE} {rs : TA} {p1 p2 : Pos} (plain : PlainAttrs ty) (sl : Slot ty nm bid) (td : typeOf (.builtin bid) = pure (.type "method_descriptor")) (mt : MtR X bid rel) (r1 : PE X ob rd) (r2 : PA X (e :: more) rs)
    (b1 : attributeBase ob nm X.env (eval ob X.env) = eval ob X.env := by rfl)
    (b2 : ((backTo p2 (starEach (e :: more) X.env)).all (fun x => !x.1) && (backToKw p2 (keywordEach [] X.env)).all (fun x => x.1.isSome)
      && decide ((e :: more).length + ([] : List Keyword).length + (if ([] : List Keyword).isEmpty then 0 else 1) < 30)) = true := by rfl)
    (b3 : (p1.endLine == p2.line) = true := by rfl) (b4 : starEach (e :: more) X.env = (false, eval e X.env) :: starEach more X.env := by rfl) (b5 : (backTo p2 (starEach more X.env)).any (·.1) = false := by rfl) (hK : X.K = K := by rfl) :
    PE X (.Call (.Attribute ob nm p1) (e :: more) [] p2) (tBM K ty rel rd rs) := by
  subst hK
  exact pe_bm plain sl td mt r1 r2 b1 b2 b3 b4 b5
theorem mt_cntB {X : Cx} (K : PySem.W.Frag) (hK : X.K = K := by rfl) : MtR X "list.count" (rCntI K) := by
  subst hK
  exact mt_lcount
end Tw
namespace K10
open PySem PySem.Spec PyProof.Rows L2 He Tw
/-! ### how many items of a rank -/
def cnt (r : Int) (ps : List (Int × Str)) : Nat := (at_ r ps).length
theorem cnt_count (r : Int) (ps : List (Int × Str)) : (rk ps).count r = cnt r ps := by
  unfold cnt at_ rk
  rw [List.count, List.countP_map, List.countP_eq_length_filter]
  refine congrArg List.length (List.filter_congr fun q _ => ?_)
  rw [Bool.eq_iff_iff]
  simp [Function.comp]
theorem eqv_ints : ∀ (xs ys : List Int), PyData.eqvAll (xs.map PyData.int) (ys.map PyData.int) = decide (xs = ys)
  | [], [] => by simp [PyData.eqvAll]
  | [], y :: ys => by simp [PyData.eqvAll]
  | x :: xs, [] => by simp [PyData.eqvAll]
  | x :: xs, y :: ys => by
    have ih := eqv_ints xs ys
    rw [List.map_cons, List.map_cons]
    simp only [PyData.eqvAll, PyData.eqv, ih]
    rw [Bool.eq_iff_iff]
    simp
/-- == of rows, both outcomes -/
def spEqB (K : Fg) : Sp := fun vs H Q _ => ∃ (a b : Addr) (ys zs : List V) (ps us : List (Int × Str)), vs = [.ref a, .ref b] ∧ RowAt K H a ys ∧ Its K H ys ps ∧ ys.length ≤ 900 ∧ RowAt K H b zs ∧ Its K H zs us ∧ zs.length ≤ 900 ∧ ∀ H', Same H H' → Q (.bl (decide (rk ps = rk us))) H'
/-- how many of a rank -/
def spNumR (K : Fg) : Sp := fun vs H Q _ => ∃ (a : Addr) (ys : List V) (ps : List (Int × Str)) (r : Int), vs = [.ref a, .int r] ∧ RowAt K H a ys ∧ Its K H ys ps ∧ ys.length ≤ 900 ∧ ∀ H', Same H H' → Q (.int (cnt r ps : Nat)) H'
abbrev s_numr : Stmt := inClass (topS 27) 12
theorem sc_numr : FnScope ["self", "rank"] ["self", "rank"] (defScope s_numr) := ⟨rfl, rfl, rfl, by decide +kernel, rfl, by decide +kernel, by decide +kernel⟩
section
variable {P : Program} {w : World} {K : Fg} {mg : Str → Option Value} {base : Heap}
theorem ok_eqb {f : Addr} {fd fdK : FuncData} (F : FnP K "__eq__" "Row.__eq__" s_eqr f fd) (FK : FnP K "ranks" "Row.ranks" s_rks (ma K (ga K "Row") "ranks") fdK) (T : Txt K mg) : FnOk P w K mg base CX0 2 f fd ["self", "other"] (spEqB K) := by
  have zisi : mg "isinstance" = none := T.bl (by decide +kernel)
  have gR : mg "Row" = some (.ref (ga K "Row")) := T.cl (by decide +kernel)
  have G_rks : FnOk P w K mg base CX0 1 _ fdK ["self"] (spRanks K) := ok_rks FK T
  have b_rks : Binds K fdK ["self"] [] := FK.bindsN fun _ _ _ _ _ _ us hl => match us, hl with | [_], _ => rfl
  have mR := T.mtN (m := "ranks") (by decide +kernel)
  refine F.ok sc_eqr (fun vs H Q E h => ?_) (fun cdv A outer s H vs Q E hr h => ?_)
  · obtain ⟨a, b, ys, zs, ps, us, rfl, _⟩ := h
    rfl
  · obtain ⟨a, b, ys, zs, ps, us, rfl, hA, iA, nA, hB, iB, nB, k⟩ := h
    refine ⟨_, PSs.nox (pss_one (ps_ret (pe_and (pe_callB call_isA (by rfl) zisi (by decide +kernel) (pa_cons (pv 1) (pa_cons (pe_glob (v := .ref (ga K "Row")) rfl gR rfl) pa_nil))) (pe_one (pe_cmpR (op_eqD hr.units) (pe_meth0 (E := E0) (pv 0) T.clsR mR G_rks (hr.mono (by decide)) b_rks .nil pass0) (pe_meth0 (E := E0) (pv 1) T.clsR mR G_rks (hr.mono (by decide)) b_rks .nil pass0) (nomark _)))))), ?_⟩
    obtain ⟨da, ta, ha, hta⟩ := id hA
    obtain ⟨db, tb, hb, htb⟩ := id hB
    have ty : TyX K H (.ref b) (.ref (ga K "Row")) := .base (.ins hb T.clsR (T.ob (by decide +kernel)).2 T.xo.hn T.xo.ht (T.ob (by decide +kernel)).1)
    refine ⟨_, rfl, .ref b, .ref (ga K "Row"), _, _, _, rfl, .own _, .inl ty, T.kitRR, _, rfl, ?_⟩
    refine ⟨_, rfl, a, da, _, rfl, ha, rfl, a, ys, ps, rfl, hA, iA, nA, fun l1 H1 h1 s1 g1 => ?_⟩
    refine ⟨_, rfl, b, db, _, rfl, s1 _ _ hb, rfl, b, zs, us, rfl, hB.same s1, iB.same s1, nB, fun l2 H2 h2 s2 g2 => ?_⟩
    refine ⟨.list ((rk ps).map .int), .list ((rk us).map .int), .lst (SqL.of (s2 _ _ g1)) (dp_ints _), .lst (SqL.of g2) (dp_ints _), shaped_ints _, shaped_ints _, ?_⟩
    have e : PyData.eqv (.list ((rk ps).map .int)) (.list ((rk us).map .int)) = decide (rk ps = rk us) := by
      rw [show PyData.eqv (.list ((rk ps).map .int)) (.list ((rk us).map .int)) = PyData.eqvAll ((rk ps).map .int) ((rk us).map .int) by simp only [PyData.eqv], eqv_ints]
    rw [e]
    exact k H2 (s1.trans s2)
theorem ok_numr {f : Addr} {fd fdK : FuncData} (F : FnP K "number" "Row.number" s_numr f fd) (FK : FnP K "ranks" "Row.ranks" s_rks (ma K (ga K "Row") "ranks") fdK) (T : Txt K mg) : FnOk P w K mg base CX0 2 f fd ["self", "rank"] (spNumR K) := by
  have G_rks : FnOk P w K mg base CX0 1 _ fdK ["self"] (spRanks K) := ok_rks FK T
  have b_rks : Binds K fdK ["self"] [] := FK.bindsN fun _ _ _ _ _ _ us hl => match us, hl with | [_], _ => rfl
  have mR := T.mtN (m := "ranks") (by decide +kernel)
  refine F.ok sc_numr (fun vs H Q E h => ?_) (fun cdv A outer s H vs Q E hr h => ?_)
  · obtain ⟨a, ys, ps, r, rfl, _⟩ := h
    rfl
  · obtain ⟨a, ys, ps, r, rfl, hA, iA, nA, k⟩ := h
    refine ⟨_, PSs.nox (pss_one (ps_ret (pe_bm PySem.F.plainAttrs_list PySem.F.slot_list_count PySem.F.type_list_count mt_lcount (pe_meth0 (E := E0) (pv 0) T.clsR mR G_rks (hr.mono (by decide)) b_rks .nil pass0) (pa_cons (pv 1) pa_nil)))), ?_⟩
    obtain ⟨da, ta, ha, hta⟩ := id hA
    refine ⟨_, rfl, a, da, _, rfl, ha, rfl, a, ys, ps, rfl, hA, iA, nA, fun l1 H1 h1 s1 g1 => ?_⟩
    refine ⟨.inl ⟨rfl, _, SqL.of g1⟩, _, rfl, l1, rk ps, r, rfl, rfl, SqL.of g1, ?_⟩
    rw [cnt_count]
    exact k H1 s1
end
/-- a dict that is walked from now on -/
theorem pi_lock {X : Cx} {tg e : Expr} {wi : TI} (h : PI X tg e wi) : PI X tg e (fun σ H R => ∃ d u, H d = some u ∧ Mut (some u) ∧ ∀ od, wi σ (upd H d (.frz od u)) R) := by
  refine ⟨fun pins s σ H R I q => ?_⟩
  obtain ⟨d, u, hd, mu, q⟩ := q
  obtain ⟨od, I1⟩ := I.lock hd mu
  exact h.run pins s σ _ R I1 (q od)
theorem blk_cnt (r : Int) : ∀ {ys : List V} {ps : List (Int × Str)}, ys.length = ps.length → (blk ys ps r).length = cnt r ps
  | [], [], _ => rfl
  | [], _ :: _, h => nomatch h
  | _ :: _, [], h => nomatch h
  | y :: ys, p :: ps, h => by
    have ih := blk_cnt r (ys := ys) (ps := ps) (Nat.succ.inj h)
    by_cases e : p.1 = r
    · rw [show blk (y :: ys) (p :: ps) r = y :: blk ys ps r from by rw [blk]; exact if_pos e, List.length_cons, ih]
      unfold cnt at_
      simp [e]
    · rw [show blk (y :: ys) (p :: ps) r = blk ys ps r from by rw [blk]; exact if_neg e, ih]
      unfold cnt at_
      simp [e]
abbrev s_blk : Stmt := inClass (topS 27) 13
abbrev N_blk : List Str := ["self", "found", "rank"]
theorem gs_blk : GScope N_blk ["self"] (defScope s_blk) := ⟨rfl, rfl, rfl, by decide +kernel, rfl, by decide +kernel, by decide +kernel⟩
/-- where the list of a rank stands -/
def lof (kvs : List (Key × V)) (r : Int) : Addr := match valV kvs (Sum.inl r) with | some (.ref l) => l | _ => 0
theorem lof_eq {kvs : List (Key × V)} {r : Int} {l : Addr} (h : valV kvs (Sum.inl r) = some (.ref l)) : lof kvs r = l := by unfold lof; rw [h]
/-- the i-th block -/
def rtB (ps : List (Int × Str)) : Nat → List V → Prop := fun i xs => ∃ r, (fsts (rk ps))[i]? = some r ∧ xs = [.int r, .int (cnt r ps : Nat)]
def spBlk (K : Fg) : SpW := fun vs H J n => ∃ (a : Addr) (ys : List V) (ps : List (Int × Str)), vs = [.ref a] ∧ ps.length ≤ 900 ∧ n = (fsts (rk ps)).length ∧ J = Tw.Jt n (fun H => RowAt K H a ys ∧ Its K H ys ps) (rtB ps)
section
variable {P : Program} {w : World} {K : Fg} {mg : Str → Option Value} {base : Heap}
theorem ok_blk {f fB : Addr} {fd fdB : FuncData} (F : FnP K "blocks" "Row.blocks" s_blk f fd) (FB : FnP K "by_rank" "by_rank" s_by fB fdB) (gB : mg "by_rank" = some (.ref fB)) (T : Txt K mg) : FnW P w K mg base 2 f fd ["self"] (spBlk K) := by
  have zlen : mg "len" = none := T.bl (by decide +kernel)
  have GB : FnOk P w K mg base CX0 1 fB fdB ["items"] (spBy K) := ok_by FB T
  have bB : Binds K fdB ["items"] [] := FB.bindsN fun _ _ _ _ _ _ us hl => match us, hl with | [_], _ => rfl
  obtain ⟨oc, od, dV, kV', doc, pm, an, cdv, ct, osl, rfl, lk, hcd, _, _⟩ := F.ex
  refine gen_of lk hcd gs_blk (fun _ => rfl) (by decide +kernel) (fun vs H J n h => ?_) fun stk H vs J n h L hb hf ge lo hsp => ?_
  · obtain ⟨a, ys, ps, rfl, _⟩ := h
    rfl
  · obtain ⟨a, ys, ps, rfl, hl, rfl, rfl⟩ := hsp
    apply ready_first (env := envOfC "Row.blocks" (defScope s_blk) L f cdv) (N := N_blk)
    case h1 => exact fun A s M hr => ps_set (i := 1) gs_blk.nd rfl (Or.inl rfl) (pe_call (E := E0) GB (hr.deeper _) rfl gB FB.kp bB .nil pass0 (pa_cons (fldK K (pv 0)) pa_nil))
    case hi => exact fun A s M hr => pi_lock (pi_keys (pv 1))
    case hg => exact fun A s M => pg_name (i := 2) gs_blk.nd rfl (Or.inl rfl)
    case he => exact fun A s M hr => pe_tupN (pa_cons (pv 2) (pa_cons (pe_callB (lenK K) (by rfl) zlen (by decide +kernel) (pa_cons (pe_dget (u1 (hr.deeper _)) (pv 1) (pv 2) (fun _ _ => rfl)) pa_nil)) pa_nil))
    case hs => exact fun _ => rfl
    case hco => rfl
    case hin => rfl
    case Z => exact ⟨ge, hb, hf, List.mem_cons_self, fun b hb => by rw [List.mem_singleton.mp hb]; exact Nat.le_refl _, lo, rfl, fun b u e => nomatch e⟩
    intro H M hP hM
    have hll : ys.length = ps.length := its_len hP.2
    obtain ⟨⟨dx, t, ha, ht⟩, its⟩ := hP
    have kL : ∀ (kvs : List (Key × V)), kvs.map Prod.fst = (fsts (rk ps)).map Sum.inl → kvs.length = (fsts (rk ps)).length := fun kvs e => by
      have := congrArg List.length e
      rwa [List.length_map, List.length_map] at this
    refine ⟨_, rfl, a, _, dx, _, _, rfl, hM _ _ ha, T.clsR, T.naR, rfl, t, ys, ps, rfl, SqT.of (hM _ _ ht), its.same hM, hl, fun d G1 kvs hd s1 G => ?_⟩
    dsimp only [gName]
    have dn : ∀ l, M l ≠ none → l ≠ d := fun l q z => q (by rw [z]; exact hd)
    refine ⟨d, _, G.at_, trivial, fun od => ⟨_, rfl, d, od, rfl, .inl ⟨kvs, upd_same, ?_, d :: (fsts (rk ps)).map (lof kvs), fun i σ G' => ∃ v : Option V, σ = [some (.ref a), some (.ref d), v] ∧ G' d = some (.frz od (.dK kvs)) ∧ ∀ r ∈ rk ps, ∃ l, valV kvs (Sum.inl r) = some (.ref l) ∧ G' l = some (.lst (blk ys ps r)),
      ⟨fun i σ G' ⟨v, _, h1, h2⟩ b hb => ?_, fun i σ G' G2 ⟨v, h0, h1, h2⟩ hd' => ?_, fun i σ G' hi ⟨v, h0, h1, h2⟩ => ?_, fun σ G' ⟨v, h0, h1, h2⟩ => ?_, fun i G' x G2 hy => ?_⟩, ⟨none, rfl, upd_same, fun r hr => ?_⟩, fun b hb => ?_⟩⟩⟩
    · exact fun b o e => by rw [upd_ne (dn b (by rw [e]; simp))]; exact s1 b o e
    · rcases List.mem_cons.mp hb with rfl | hb
      · exact ⟨_, h1, trivial⟩
      · obtain ⟨r, hr, rfl⟩ := List.mem_map.mp hb
        obtain ⟨l, e1, e2⟩ := h2 r (mem_fsts.mp hr)
        rw [lof_eq e1]
        exact ⟨_, e2, trivial⟩
    · refine ⟨v, h0, (hd' d List.mem_cons_self).trans h1, fun r hr => ?_⟩
      obtain ⟨l, e1, e2⟩ := h2 r hr
      refine ⟨l, e1, (hd' l (List.mem_cons_of_mem _ (List.mem_map.mpr ⟨r, mem_fsts.mpr hr, lof_eq e1⟩))).trans e2⟩
    · refine ⟨⟨h1, by rw [kL kvs G.keys]; exact hi⟩, fun x G2 ⟨hG, kk, vv, hk, hx⟩ => ?_⟩
      subst hG
      obtain ⟨r, hr⟩ : ∃ r, (fsts (rk ps))[i]? = some r := ⟨_, List.getElem?_eq_getElem hi⟩
      have ek : kk = Sum.inl r := by
        have q := congrArg (fun l => l[i]?) G.keys
        simp only [List.getElem?_map, hk, hr, Option.map_some] at q
        exact Option.some.inj q
      subst ek
      have hm : r ∈ rk ps := mem_fsts.mp (List.mem_of_getElem? hr)
      obtain ⟨l, e1, e2⟩ := h2 r hm
      rw [h0, hx]
      dsimp only [gName]
      refine ⟨_, rfl, _, rfl, _, rfl, d, .ref l, rfl, .inl ⟨kvs, Sum.inl r, .inr ⟨od, h1⟩, rfl, e1.symm⟩, .ref l, (blk ys ps r).length, rfl, .inl ⟨_, SqL.of e2, rfl⟩, sz1000 (by show 2 ≤ 1000; decide), fun T0 G3 hT s3 g3 => ⟨⟨some (.int r), rfl, s3 _ _ h1, fun r' hr' => ?_⟩, s3, T0, _, rfl, hT, g3, r, hr, ?_⟩⟩
      · obtain ⟨l', q1, q2⟩ := h2 r' hr'
        exact ⟨l', q1, s3 _ _ q2⟩
      · rw [blk_cnt r hll]
        rfl
    · exact ⟨h1, by rw [kL kvs G.keys]; exact Nat.le_refl _⟩
    · rw [hy.1]; exact Same.refl _
    · obtain ⟨l, e1, e2, _⟩ := G.there r hr
      refine ⟨l, e1, ?_⟩
      rw [upd_ne]
      · exact e2
      · rintro rfl
        have := G.at_
        rw [e2] at this
        cases this
    · rcases List.mem_cons.mp hb with rfl | hb
      · exact hd
      · obtain ⟨r, hr, rfl⟩ := List.mem_map.mp hb
        obtain ⟨l, e1, _, e3⟩ := G.there r (mem_fsts.mp hr)
        rw [lof_eq e1]
        exact e3
end
theorem fsts_len (xs : List Int) : (fsts xs).length ≤ xs.length := by
  have h : ∀ (xs acc : List Int), (xs.foldl (fun acc r => if r ∈ acc then acc else acc ++ [r]) acc).length ≤ acc.length + xs.length := by
    intro xs
    induction xs with
    | nil => intro acc; simp
    | cons x xs ih =>
      intro acc
      rw [List.foldl_cons, List.length_cons]
      have := ih (if x ∈ acc then acc else acc ++ [x])
      split at this
      · rename_i hm
        rw [if_pos hm]; omega
      · rename_i hm
        rw [if_neg hm]
        rw [List.length_append, List.length_singleton] at this
        omega
  have q := h xs []
  rw [List.length_nil, Nat.zero_add] at q
  exact q
theorem cnt_cons (r : Int) (q : Int × Str) (ps : List (Int × Str)) : cnt r (q :: ps) = (if q.1 = r then 1 else 0) + cnt r ps := by
  unfold cnt at_
  by_cases h : q.1 = r
  · simp [h]; omega
  · simp [h]
theorem nodup_fold : ∀ {xs acc : List Int}, acc.Nodup → (xs.foldl (fun acc r => if r ∈ acc then acc else acc ++ [r]) acc).Nodup
  | [], acc, h => h
  | x :: xs, acc, h => by
    rw [List.foldl_cons]
    refine nodup_fold ?_
    split
    · exact h
    · rename_i hx
      rw [List.nodup_append]
      refine ⟨h, (List.nodup_cons.mpr ⟨(fun z => nomatch z), List.nodup_nil⟩), fun a ha b hb e => ?_⟩
      rw [List.mem_singleton.mp hb] at e
      exact hx (e ▸ ha)
theorem nodup_fsts (xs : List Int) : (fsts xs).Nodup := nodup_fold List.nodup_nil
theorem sumI_ind {x : Int} : ∀ {L : List Int}, L.Nodup → x ∈ L → (L.map fun r => if x = r then (1 : Int) else 0).sum = 1
  | y :: L, nd, h => by
    rw [List.nodup_cons] at nd
    rw [List.map_cons, List.sum_cons]
    have zero : ∀ {L : List Int}, x ∉ L → (L.map fun r => if x = r then (1 : Int) else 0).sum = 0 := by
      intro L
      induction L with
      | nil => intro _; rfl
      | cons z L ih =>
        intro hz
        rw [List.mem_cons, not_or] at hz
        rw [List.map_cons, List.sum_cons, if_neg hz.1, ih hz.2]; rfl
    by_cases e : x = y
    · subst e
      rw [if_pos rfl, zero nd.1]; rfl
    · rw [if_neg e, sumI_ind nd.2 ((List.mem_cons.mp h).resolve_left e)]; rfl
theorem sumI_add (f g : Int → Int) : ∀ L : List Int, (L.map fun r => f r + g r).sum = (L.map f).sum + (L.map g).sum
  | [] => rfl
  | x :: L => by
    rw [List.map_cons, List.map_cons, List.map_cons, List.sum_cons, List.sum_cons, List.sum_cons, sumI_add f g L]; omega
theorem sumI_cnt {L : List Int} (nd : L.Nodup) : ∀ {ps : List (Int × Str)}, (∀ q ∈ ps, q.1 ∈ L) → (L.map fun r => ((cnt r ps : Nat) : Int)).sum = (ps.length : Int)
  | [], _ => by
    have : ∀ L : List Int, (L.map fun r => ((cnt r [] : Nat) : Int)).sum = 0 := by
      intro L
      induction L with
      | nil => rfl
      | cons x L ih => rw [List.map_cons, List.sum_cons, ih]; rfl
    exact this L
  | q :: ps, h => by
    have e : (fun r => ((cnt r (q :: ps) : Nat) : Int)) = fun r => (if q.1 = r then (1 : Int) else 0) + ((cnt r ps : Nat) : Int) := by
      funext r
      rw [cnt_cons]
      by_cases hq : q.1 = r
      · simp [hq]
      · simp [hq]
    rw [e, sumI_add (fun r => if q.1 = r then (1 : Int) else 0), sumI_ind nd (h q List.mem_cons_self), sumI_cnt nd fun q' hq => h q' (List.mem_cons_of_mem _ hq), List.length_cons]
    omega
theorem sum_all (ps : List (Int × Str)) : ((fsts (rk ps)).map fun r => ((cnt r ps : Nat) : Int)).sum = (ps.length : Int) :=
  sumI_cnt (nodup_fsts _) fun q hq => mem_fsts.mpr (List.mem_map.mpr ⟨q, hq, rfl⟩)
end K10
namespace K10
open PySem PySem.Spec PyProof.Rows L2 He Tw
theorem ints_vals {K : Fg} {H : Hp} : ∀ {xs : List Int}, (∀ r ∈ xs, rankOk (.int r) = true) → Vals' K H (xs.map V.int) (xs.map fun r => (r, ("" : Str)))
  | [], _ => .nil
  | x :: xs, h => .cons (.int (h x List.mem_cons_self)) (ints_vals fun r hr => h r (List.mem_cons_of_mem _ hr))
theorem rk_ints (xs : List Int) : rk (xs.map fun r => (r, ("" : Str))) = xs := by
  unfold rk
  rw [List.map_map]
  exact List.map_id' xs
theorem asc_ints {ps : List (Int × Str)} (h : Asc ps) : Asc ((rk ps).map fun r => (r, ("" : Str))) := by
  unfold Asc rk at *
  rw [List.map_map]
  exact List.pairwise_map.mpr (h.imp fun h => h)
/-- a row that is of these pairs in every way -/
def spAgr (K : Fg) : Sp := fun vs H Q _ => ∃ (a g : Addr) (ys ts : List V) (ps : List (Int × Str)), vs = [.ref a, .ref g] ∧ RowAt K H a ys ∧ Its K H ys ps ∧ H g = some (.lst ts) ∧ Prs H ts ps ∧ Rw 200 ps ∧ ∀ H', Same H H' → Q (.bl true) H'
abbrev s_agr : Stmt := topS 46
abbrev N_agr : List Str := ["_law_row", "_law_pairs_here", "_law_ranks", "_law_pair", "_law_rank", "_law_block"]
theorem sc_agr : FnScope N_agr ["_law_row", "_law_pairs_here"] (defScope s_agr) := ⟨rfl, rfl, rfl, by decide +kernel, rfl, by decide +kernel, by decide +kernel⟩
section
variable {P : Program} {w : World} {K : Fg} {mg : Str → Option Value} {base : Heap} {fd : Nat → FuncData}
theorem G_agr (D : DefsK K fd) (T : Txt K mg) : FnOk P w K mg base CX0 12 (ga K "_law_agrees") (fd 38) ["_law_row", "_law_pairs_here"] (spAgr K) := by
  have zlen : mg "len" = none := T.bl (by decide +kernel)
  have zsum : mg "sum" = none := T.bl (by decide +kernel)
  have gR : mg "Row" = some (.ref (ga K "Row")) := T.cl (by decide +kernel)
  have gT := T.fn (x := "_law_told") (by decide +kernel)
  have FT : FnP K "_law_told" "_law_told" s_told (ga K "_law_told") (fd 28) := D 28 _ rfl
  have GT : FnOk P w K mg base CX0 1 _ (fd 28) ["_law_listed"] (spTold K) := ok_told FT T
  have bT : Binds K (fd 28) ["_law_listed"] [] := FT.bindsN fun _ _ _ _ _ _ us hl => match us, hl with | [_], _ => rfl
  have FLi : FnP K "listed" "Row.listed" s_lst (ma K (ga K "Row") "listed") (fd 8) := D 8 _ rfl
  have GLi : FnOk P w K mg base CX0 1 _ (fd 8) ["self"] (spListed K) := ok_lst FLi T
  have bLi : Binds K (fd 8) ["self"] [] := FLi.bindsN fun _ _ _ _ _ _ us hl => match us, hl with | [_], _ => rfl
  have mLi := T.mtR (m := "listed") (by decide +kernel)
  have FL : FnP K "__len__" "Row.__len__" s_len (ma K (ga K "Row") "__len__") (fd 42) := D 42 _ rfl
  have GL : FnOk P w K mg base CX0 1 _ (fd 42) ["self"] (spLen K) := ok_len FL T
  have bL : Binds K (fd 42) ["self"] [] := FL.bindsN fun _ _ _ _ _ _ us hl => match us, hl with | [_], _ => rfl
  have mL := T.mtR2 (m := "__len__") (by decide +kernel)
  have FK : FnP K "ranks" "Row.ranks" s_rks (ma K (ga K "Row") "ranks") (fd 39) := D 39 _ rfl
  have GK : FnOk P w K mg base CX0 1 _ (fd 39) ["self"] (spRanks K) := ok_rks FK T
  have bK : Binds K (fd 39) ["self"] [] := FK.bindsN fun _ _ _ _ _ _ us hl => match us, hl with | [_], _ => rfl
  have mK := T.mtN (m := "ranks") (by decide +kernel)
  have FN : FnP K "number" "Row.number" s_numr (ma K (ga K "Row") "number") (fd 40) := D 40 _ rfl
  have GN : FnOk P w K mg base CX0 2 _ (fd 40) ["self", "rank"] (spNumR K) := ok_numr FN FK T
  have bN : Binds K (fd 40) ["self", "rank"] [] := FN.bindsN fun _ _ _ _ _ _ us hl => match us, hl with | [_, _], _ => rfl
  have mN := T.mtN (m := "number") (by decide +kernel)
  have FE : FnP K "__eq__" "Row.__eq__" s_eqr (ma K (ga K "Row") "__eq__") (fd 53) := D 53 _ rfl
  have GE : FnOk P w K mg base CX0 2 _ (fd 53) ["self", "other"] (spEqB K) := ok_eqb FE FK T
  have bE : Binds K (fd 53) ["self", "other"] [] := FE.bindsN fun _ _ _ _ _ _ us hl => match us, hl with | [_, _], _ => rfl
  have mE := T.mtN (m := "__eq__") (by decide +kernel)
  have FBy : FnP K "by_rank" "by_rank" s_by (ga K "by_rank") (fd 19) := D 19 _ rfl
  have gBy := T.fn (x := "by_rank") (by decide +kernel)
  have FB : FnP K "blocks" "Row.blocks" s_blk (ma K (ga K "Row") "blocks") (fd 52) := D 52 _ rfl
  have GB : FnW P w K mg base 2 _ (fd 52) ["self"] (spBlk K) := ok_blk FB FBy gBy T
  have bB : Binds K (fd 52) ["self"] [] := FB.bindsN fun _ _ _ _ _ _ us hl => match us, hl with | [_], _ => rfl
  have mB := T.mtN (m := "blocks") (by decide +kernel)
  have FG : FnP K "__getitem__" "Row.__getitem__" s_get (ma K (ga K "Row") "__getitem__") (fd 43) := D 43 _ rfl
  have GG : FnOk P w K mg base (L2.CX P w) 4 (ma K (ga K "Row") "__getitem__") (fd 43) ["self", "at"] (spGet K) := G_get D T
  have bG : Binds K (fd 43) ["self", "at"] [] := FG.bindsN fun _ _ _ _ _ _ us hl => match us, hl with | [_, _], _ => rfl
  have fG := fnIn_of FG
  have mG := T.mtR2 (m := "__getitem__") (by decide +kernel)
  have Gr : FnOk P w K mg base (L2.CX P w) 6 (ma K (ga K "Row") "__init__") (fd 6) ["self", "items"] (spRow K) := G_row D T
  have F : FnP K "_law_agrees" "_law_agrees" s_agr (ga K "_law_agrees") (fd 38) := D 38 _ rfl
  refine F.ok sc_agr (fun vs H Q E h => ?_) (fun cdv A outer s H vs Q E hr h => ?_)
  · obtain ⟨a, g, ys, ts, ps, rfl, _⟩ := h
    rfl
  · obtain ⟨a, g, ys, ts, ps, rfl, ra, ia, hg, prs, rw0, k⟩ := h
    refine ⟨_, PSs.nox (pss_cons (ps_set (i := 2) sc_agr.nd rfl (Or.inr rfl) (pe_lc (own := [("_law_pair", 3)]) (g := gName 3) (tt := tYes) (by rfl) sc_agr.nd (pi_list (pv 1)) (blkOk_by (own := [("_law_pair", 3)]) (N := N_agr) (sc := defScope s_agr) (by decide +kernel)) (fun _ _ _ _ _ => (pg_name (i := 3) sc_agr.nd rfl (Or.inl rfl))) (fun _ _ _ _ _ => pts_nil) (fun _ _ _ _ _ => (pe_ix (ixt K) (pv 3) pe_int (fun _ _ => rfl)))))
    (pss_cons (ps_if (PW.pt (pw_or (pt_cmpR (op_neD hr.units) (pe_call (E := E0) GT (hr.mono (by decide)) rfl gT FT.kp bT .nil pass0 (pa_cons (pe_meth0 (E := E0) (pv 0) T.clsR mLi GLi (hr.mono (by decide)) bLi .nil pass0) pa_nil)) (pv 1) (nomark _)) (pw_or (pt_cmpR op_ne (pe_callB (call_lenOwn (E := E0) mL.at_ mL.fn GL (hr.mono (by decide)) bL pass0) (by rfl) zlen (by decide +kernel) (pa_cons (pv 0) pa_nil)) (pe_callB call_len (by rfl) zlen (by decide +kernel) (pa_cons (pv 1) pa_nil)) (nomark _)) (pw_or1 (pt_cmpR (op_neD hr.units) (pe_meth0 (E := E0) (pv 0) T.clsR mK GK (hr.mono (by decide)) bK .nil pass0) (pv 2) (nomark _)))))) (pss_one (ps_ret pe_bl)) pss_nil)
    (pss_cons (ps_if (pt_cmpR (op_neD hr.units) (pe_call (E := E0) GT (hr.mono (by decide)) rfl gT FT.kp bT .nil pass0 (pa_cons (pe_ixOwn (E := E0) mG.at_ mG.fn fG GG (hr.mono (by decide)) bG noE (pv 0) (pe_tupN (pa_cons pe_int (pa_cons (pe_callB call_len (by rfl) zlen (by decide +kernel) (pa_cons (pv 1) pa_nil)) pa_nil)))) pa_nil)) (pv 1) (nomark _)) (pss_one (ps_ret pe_bl)) pss_nil)
    (pss_cons (ps_if (pt_cmpR (op_neD hr.units) (pe_lc (own := [("_law_rank", 4)]) (g := gName 4) (by rfl) sc_agr.nd (pi_list (pe_op op_catN (pe_slice sl_listN (pv 2) po_none (po_some pe_int)) (pe_slice sl_listN (pv 2) (po_some (pe_un un_neg pe_int)) po_none))) (blkOk_by (own := [("_law_rank", 4)]) (N := N_agr) (sc := defScope s_agr) (by decide +kernel)) (fun _ _ _ _ _ => (pg_name (i := 4) sc_agr.nd rfl (Or.inl rfl))) (fun _ _ _ _ _ => pts_one (pt_cmpR op_ne (pe_meth (E := E0) (pv 0) T.clsR mN GN (hr.mono (by decide)) bN .nil pass0 (pa_cons (pv 4) pa_nil)) (pe_bmB K PySem.F.plainAttrs_list PySem.F.slot_list_count PySem.F.type_list_count (mt_cntB K) (pv 2) (pa_cons (pv 4) pa_nil)) (nomark _))) (fun _ _ _ _ _ => (pv 4))) (pe_lstN pa_nil) (nomark _)) (pss_one (ps_ret pe_bl)) pss_nil)
    (pss_one (ps_ret (pe_and (pe_cmpR (op_eqOwn (E := E0) mE.at_ mE.fn GE (hr.mono (by decide)) bE pass0) (pe_make (E := E0) T.mkR Gr (hr.mono (by decide)) rfl gR (bRow D) .nil passL (pa_cons (pv 2) pa_nil)) (pv 0) (nomark _)) (pe_one (pe_cmpR op_eq (pe_callB (cr_sum rfl) (by rfl) zsum (by decide +kernel) (pa_cons (pe_lcG (k := 3) (own := [("_law_block", 5)]) (g := gName 5) (tt := tYes) (by rfl) (hr.mono (by decide)) sc_agr.nd (pig_meth0 (pv 0) T.clsR mB GB (hr.mono (by decide)) bB .nil) (blkOk_by (own := [("_law_block", 5)]) (N := N_agr) (sc := defScope s_agr) (by decide +kernel)) (fun _ _ _ _ _ => (pg_name (i := 5) sc_agr.nd rfl (Or.inl rfl))) (fun _ _ _ _ _ => pts_nil) (fun _ _ _ _ _ => (pe_ix (ixt K) (pv 5) pe_int (fun _ _ => rfl)))) pa_nil)) (pe_callB call_len (by rfl) zlen (by decide +kernel) (pa_cons (pv 1) pa_nil)) (nomark _)))))))))), ?_⟩
    have lt : ts.length = ps.length := Paired.length prs
    have ly : ys.length = ps.length := its_len ia
    have lm : ps.length ≤ 200 := rw0.few
    have lr : (rk ps).length = ps.length := by unfold rk; rw [List.length_map]
    have gx : ∀ q ∈ ps, textOk q.2 = true := fun q hq => (rw0.gs q hq).2.1
    have rok : ∀ r ∈ rk ps, rankOk (.int r) = true := fun r hr => by
      obtain ⟨q, hq, rfl⟩ := List.mem_map.mp hr
      exact gd_rank (rw0.gs q hq).gd
    refine ⟨_, rfl, g, rfl, ⟨_, SqL.of hg⟩, fun D1 hD => lc_list (K := K) (a := g) (xs := ts) (fun j H' => Same H H' ∧ H' D1 = some (.lst (((rk ps).take j).map V.int))) ⟨same_new hD, upd_same⟩ (fun j H' _ ⟨s, _⟩ => SqL.of (s _ _ hg)) ?_ ?_⟩
    · rintro j x H3 hx ⟨s3, gD⟩
      obtain ⟨t, q, rfl, hq, gt⟩ := prs_at prs hx
      have hj : j < ps.length := (List.getElem?_eq_some_iff.mp hq).1
      refine ⟨rfl, _, rfl, t, _, 0, .int q.1, rfl, rfl, SqT.of (s3 _ _ gt), rfl, _, gD, ?_, same_upd s3 hD, ?_⟩
      · rw [List.length_map, List.length_take, lr, sizeLine_eq]
        omega
      · have e : (rk ps)[j]? = some q.1 := by unfold rk; rw [List.getElem?_map, hq]; rfl
        rw [upd_same, List.take_add_one, e, List.map_append]
        rfl
    rintro H3 ⟨s3, gD⟩
    rw [lt, ← lr, List.take_length] at gD
    refine told_ne (K := K) (i := 0) (j := 1) rfl rfl (ra.same s3) (ia.same s3) (by omega) (s3 _ _ hg) (prs_same s3 prs) gx fun H4 s4 => ⟨_, rfl, iteF ?_⟩
    have s04 := s3.trans s4
    obtain ⟨da, ta, ha, hta⟩ := id ra
    refine ⟨_, rfl, a, da, _, rfl, s04 _ _ ha, a, ys, rfl, ra.same s04, by omega, ys.length, rfl, by omega, _, rfl, .ref g, ts.length, rfl, .inl ⟨ts, SqL.of (s04 _ _ hg), rfl⟩, rfl, _, rfl, iteFe (by rw [ly, lt]; simp) ?_⟩
    refine ⟨_, rfl, a, da, _, rfl, s04 _ _ ha, rfl, a, ys, ps, rfl, ra.same s04, ia.same s04, by omega, fun l5 H5 f5 s5 g5 => ?_⟩
    have s05 := s04.trans s5
    refine ⟨_, rfl, .list ((rk ps).map .int), .list ((rk ps).map .int), .lst (SqL.of g5) (dp_ints _), .lst (SqL.of (s5 _ _ (s4 _ _ gD))) (dp_ints _), shaped_ints _, shaped_ints _, _, rfl, ?_⟩
    have ee : PyData.eqv (.list ((rk ps).map .int)) (.list ((rk ps).map .int)) = true := by
      rw [show PyData.eqv (.list ((rk ps).map .int)) (.list ((rk ps).map .int)) = PyData.eqvAll ((rk ps).map .int) ((rk ps).map .int) by simp only [PyData.eqv], eqv_ints]
      simp
    rw [ee]
    refine iteF ?_
    refine ⟨_, rfl, _, rfl, .ref g, ts.length, rfl, .inl ⟨ts, SqL.of (s05 _ _ hg), rfl⟩, sz1000 (by show 2 ≤ 1000; decide), fun tq H6 f6 s6 g6 => ?_⟩
    have s06 := s05.trans s6
    refine ⟨a, da, _, rfl, s06 _ _ ha, .inr ⟨a, tq, 0, (ts.length : Int), rfl, g6, a, 0, (ts.length : Int), ys, ps, rfl, ra.same s06, ia.same s06, by omega, fun _ l7 H7 f7 s7 g7 => ?_, fun z => absurd (by omega) z, fun _ z => absurd (by omega) z⟩⟩
    rw [show ((ts.length : Int)).toNat = ys.length by omega, List.take_length] at g7
    have s07 := s06.trans s7
    refine ⟨l7, ys, ps, rfl, g7, ia.same s07, by omega, fun g8 H8 us f8 s8 h8 pr8 => ?_⟩
    have s08 := s07.trans s8
    refine ⟨_, rfl, .list (ps.map pd), .list (ps.map pd), .lst (SqL.of h8) (dp_prs pr8), .lst (SqL.of (s08 _ _ hg)) (dp_prs (prs_same s08 prs)), shaped_prs gx, shaped_prs gx, _, rfl, ?_⟩
    rw [eqv_prs gx]
    refine iteF ?_
    have gD8 : H8 D1 = some (.lst ((rk ps).map V.int)) := s8 _ _ (s7 _ _ (s6 _ _ (s5 _ _ (s4 _ _ gD))))
    refine ⟨_, rfl, _, rfl, D1, _, rfl, SqL.of gD8, fun q9 H9 f9 s9 g9 => ?_⟩
    refine ⟨_, rfl, _, rfl, _, rfl, D1, _, rfl, SqL.of (s9 _ _ gD8), fun qa Ha fa sa gga => ?_⟩
    refine ⟨q9, qa, _, _, rfl, rfl, sa _ _ g9, gga, ?_, fun qb Hb fb mb sb gb => ?_⟩
    · have l1 := cutV_length ((rk ps).map V.int) none (some 3)
      have l2 := cutV_length ((rk ps).map V.int) (some (-3)) none
      rw [List.length_map] at l1 l2
      exact sz1000 (by show _ + _ ≤ 1000; omega)
    have s0b := s08.trans (s9.trans (sa.trans sb))
    have gDb := sb _ _ (sa _ _ (s9 _ _ gD8))
    have both : ∃ cs : List V, Hb qb = some (.lst cs) ∧ ∀ x ∈ cs, x ∈ (rk ps).map V.int := ⟨_, gb, fun x hx => (List.mem_append.mp hx).elim cut_mem cut_mem⟩
    obtain ⟨cs, gc, mc⟩ := both
    refine ⟨qb, rfl, ⟨_, SqL.of gc⟩, fun D2 hD2 => lc_list (K := K) (a := qb) (xs := cs) (fun j H' => Same Hb H' ∧ H' D2 = some (.lst [])) ⟨same_new hD2, upd_same⟩ (fun j H' _ ⟨s, _⟩ => SqL.of (s _ _ gc)) ?_ ?_⟩
    · rintro j x Hc hx ⟨sc, gD2⟩
      obtain ⟨r, hr', rfl⟩ := List.mem_map.mp (mc x (List.mem_of_getElem? hx))
      have s0c := s0b.trans sc
      refine ⟨rfl, _, rfl, a, da, _, rfl, s0c _ _ ha, rfl, _, rfl, a, ys, ps, r, rfl, ra.same s0c, ia.same s0c, by omega, fun He se => ?_⟩
      have gDe := se _ _ (sc _ _ gDb)
      refine ⟨_, rfl, .inl ⟨rfl, _, SqL.of gDe⟩, _, rfl, D1, rk ps, r, rfl, rfl, SqL.of gDe, rfl, _, rfl, ?_⟩
      refine iteFe (by rw [cnt_count]; simp) ⟨sc.trans se, se _ _ gD2⟩
    rintro Hc ⟨sc, gD2⟩
    refine ⟨sz1000 (by show 0 ≤ 1000; decide), fun qd Hd fd' md sd gd => ⟨.list [], .list [], .lst (SqL.of (sd _ _ gD2)) .nil, .lst (SqL.of gd) .nil, shaped_ints [], shaped_ints [], _, rfl, iteFe (by rfl) ?_⟩⟩
    have s0d := s0b.trans (sc.trans sd)
    have gDd := sd _ _ (sc _ _ gDb)
    refine ⟨_, rfl, fun x dx h1 h2 h3 => row_to h1 h2 h3 (vals_src (ps := (rk ps).map fun r => (r, ("" : Str))) (.inl (SqL.of gDd)) (ints_vals rok) (by rw [List.length_map]; omega)) (asc_up (asc_ints rw0.asc)) (by rw [List.length_map]; omega) fun He ub se rb ib => ⟨rfl, _, rfl, ?_⟩⟩
    have s0e := s0d.trans se
    obtain ⟨dxe, tie, hx, _⟩ := id rb
    have lub : ub.length ≤ 900 := by
      rw [its_len ib, List.length_map]
      omega
    have tyA : TyA K He (.ref a) (.ref (ga K "Row")) := .inl (.base (.ins (s0e _ _ ha) T.clsR (T.ob (by decide +kernel)).2 T.xo.hn T.xo.ht (T.ob (by decide +kernel)).1))
    refine ⟨x, dxe, _, .ref (ga K "Row"), rfl, hx, tyA, T.nfR, x, a, ub, ys, _, ps, rfl, rb, ib, lub, ra.same s0e, ia.same s0e, by omega, fun Hf sf => ⟨_, rfl, ?_⟩⟩
    rw [decide_eq_true (rk_ints _)]
    refine iteT ?_
    have s0f := s0e.trans sf
    have rf := ra.same s0f
    have jf := ia.same s0f
    refine ⟨_, rfl, a, da, _, _, _, rfl, s0f _ _ ha, rfl, jt_go, jt_st, ⟨a, ys, ps, rfl, by omega, rfl, rfl⟩, fun D9 hD9 => lcG_jt (fun j H' => Same Hf H' ∧ H' D9 = some (.lst (((fsts (rk ps)).take j).map fun r => V.int (cnt r ps : Nat)))) ⟨same_new hD9, upd_same⟩ (fun H' q => ⟨rf.same q.1, jf.same q.1⟩) ?_ ?_⟩
    · rintro j T0 xs H2 H3 hj ⟨s2, g2⟩ s3 hT gT ⟨r, hr', rfl⟩
      refine ⟨rfl, _, rfl, T0, _, 1, _, rfl, rfl, SqT.of gT, rfl, _, s3 _ _ g2, ?_, same_upd (s2.trans s3) hD9, ?_⟩
      · rw [List.length_map]
        exact Nat.lt_of_le_of_lt (List.length_take_le' _ _) (Nat.lt_of_le_of_lt (fsts_len _) (by rw [lr, sizeLine_eq]; omega))
      · rw [upd_same, List.take_add_one, hr', Option.toList_some, List.map_append]
        rfl
    · rintro H2 H3 ⟨s2, g2⟩ s3
      have g3 := s3 _ _ g2
      rw [List.take_of_length_le (Nat.le_refl _)] at g3
      have s03 := s0f.trans (s2.trans s3)
      refine ⟨D9, (fsts (rk ps)).map fun r => ((cnt r ps : Nat) : Int), rfl, SqL.of (by rw [List.map_map]; exact g3), ?_⟩
      rw [sum_all]
      refine ⟨_, rfl, .ref g, ts.length, rfl, .inl ⟨ts, SqL.of (s03 _ _ hg), rfl⟩, rfl, ?_⟩
      rw [lt, decide_eq_true rfl]
      exact k H3 s03
end
end K10
namespace K10
open PySem PySem.Spec PyProof.Rows L2 He Tw
theorem Stp.fail {ps us : List (Int × Str)} {d : Deed} {wd : Wd} (h : Stp ps d us wd) : wd ≠ none → us = ps := by
  cases h with
  | far | bad | opBad => exact fun _ => rfl
  | _ => exact fun z => absurd rfl z
abbrev s_law : Stmt := topS 47
abbrev N_law : List Str := ["_law_script", "_law_pen_here", "_law_pairs_here", "_law_row", "_law_turn", "_law_way", "_law_deed_here", "_law_values_here", "_law_due"]
theorem sc_law : FnScope N_law ["_law_script"] (defScope s_law) := ⟨rfl, rfl, rfl, by decide +kernel, rfl, by decide +kernel, by decide +kernel⟩
def spLaw (K : Fg) : Sp := fun vs H Q _ => ∃ (a : Addr) (ns : List Int), vs = [.ref a] ∧ SqL K H a (ns.map V.int) ∧ ns.length ≤ 63 ∧ Tk K H ∧ ∀ H', Q (.bl true) H'
section
variable {P : Program} {w : World} {K : Fg} {mg : Str → Option Value} {base : Heap} {fd : Nat → FuncData}
theorem G_law (D : DefsK K fd) (T : Txt K mg) (tb : TBs K mg base) : FnG P w K mg base CX0 34 (ga K "law") (fd 41) ["_law_script"] (spLaw K) := by
  have zr : mg "range" = none := T.bl (by decide +kernel)
  have zlen : mg "len" = none := T.bl (by decide +kernel)
  have gR : mg "Row" = some (.ref (ga K "Row")) := T.cl (by decide +kernel)
  obtain ⟨d2, I⟩ := itm (P := P) (w := w) (base := base) (mg := mg) D T
  have gPen := T.fn (x := "_law_pen") (by decide +kernel)
  have FPen : FnP K "_law_pen" "_law_pen" s_pen (ga K "_law_pen") (fd 23) := D 23 _ rfl
  have GPen : FnOk P w K mg base CX0 1 _ (fd 23) ["_law_script"] (spPenL K) := ok_pen FPen T
  have bPen : Binds K (fd 23) ["_law_script"] [] := FPen.bindsN fun _ _ _ _ _ _ us hl => match us, hl with | [_], _ => rfl
  have gD := T.fn (x := "_law_draw") (by decide +kernel)
  have FD : FnP K "_law_draw" "_law_draw" s_draw (ga K "_law_draw") (fd 24) := D 24 _ rfl
  have GD : FnOk P w K mg base CX0 1 _ (fd 24) ["_law_pen_here", "_law_many"] spDrawL := ok_draw FD T
  have bD : Binds K (fd 24) ["_law_pen_here", "_law_many"] [] := FD.bindsN fun _ _ _ _ _ _ us hl => match us, hl with | [_, _], _ => rfl
  have gP := T.fn (x := "_law_pick") (by decide +kernel)
  have FP : FnP K "_law_pick" "_law_pick" s_pick (ga K "_law_pick") (fd 25) := D 25 _ rfl
  have gPr := T.fn (x := "_law_pairs") (by decide +kernel)
  have FPr : FnP K "_law_pairs" "_law_pairs" s_pairs (ga K "_law_pairs") (fd 26) := D 26 _ rfl
  have GPr : FnOk P w K mg base CX0 3 _ (fd 26) ["_law_pen_here", "_law_most"] spPairs := ok_pairs FPr FD gD FP gP T
  have bPr : Binds K (fd 26) ["_law_pen_here", "_law_most"] [] := FPr.bindsN fun _ _ _ _ _ _ us hl => match us, hl with | [_, _], _ => rfl
  have gVa := T.fn (x := "_law_values") (by decide +kernel)
  have FVa : FnP K "_law_values" "_law_values" s_values (ga K "_law_values") (fd 27) := D 27 _ rfl
  have GVa : FnOk P w K mg base CX0 5 _ (fd 27) ["_law_pen_here", "_law_pairs_here"] (spValues K) := ok_values FVa FD gD I T
  have bVa : Binds K (fd 27) ["_law_pen_here", "_law_pairs_here"] [] := FVa.bindsN fun _ _ _ _ _ _ us hl => match us, hl with | [_, _], _ => rfl
  have Gr : FnOk P w K mg base (L2.CX P w) 6 (ma K (ga K "Row") "__init__") (fd 6) ["self", "items"] (spRow K) := G_row D T
  have gE := T.fn (x := "_law_deed") (by decide +kernel)
  have FE : FnP K "_law_deed" "_law_deed" s_deed (ga K "_law_deed") (fd 34) := D 34 _ rfl
  have GE : FnOk P w K mg base CX0 4 _ (fd 34) ["_law_pen_here", "_law_pairs_here"] spDeed := G_deed D T
  have bE : Binds K (fd 34) ["_law_pen_here", "_law_pairs_here"] [] := FE.bindsN fun _ _ _ _ _ _ us hl => match us, hl with | [_, _], _ => rfl
  have gV := T.fn (x := "_law_values_of") (by decide +kernel)
  have FV : FnP K "_law_values_of" "_law_values_of" s_vof (ga K "_law_values_of") (fd 35) := D 35 _ rfl
  have GV : FnOk P w K mg base CX0 8 _ (fd 35) ["_law_pen_here", "_law_deed_here"] (spVof K) := G_vof D T
  have bV : Binds K (fd 35) ["_law_pen_here", "_law_deed_here"] [] := FV.bindsN fun _ _ _ _ _ _ us hl => match us, hl with | [_, _], _ => rfl
  have gS := T.fn (x := "_law_step") (by decide +kernel)
  have FS : FnP K "_law_step" "_law_step" s_step (ga K "_law_step") (fd 32) := D 32 _ rfl
  have GS : FnOk P w K mg base CX0 3 _ (fd 32) ["_law_pairs_here", "_law_deed_here"] spStep := G_step D T
  have bS : Binds K (fd 32) ["_law_pairs_here", "_law_deed_here"] [] := FS.bindsN fun _ _ _ _ _ _ us hl => match us, hl with | [_, _], _ => rfl
  have gDo := T.fn (x := "_law_do") (by decide +kernel)
  have FDo : FnP K "_law_do" "_law_do" s_do (ga K "_law_do") (fd 33) := D 33 _ rfl
  have GDo : ∀ base' : Heap, Sub base base' → FnOk P w K mg base' (L2.CX P w) 10 _ (fd 33) ["_law_row", "_law_deed_here", "_law_values_here"] (spDo K) := fun base' s => G_do D T (tb.up s)
  have bDo : Binds K (fd 33) ["_law_row", "_law_deed_here", "_law_values_here"] [] := FDo.bindsN fun _ _ _ _ _ _ us hl => match us, hl with | [_, _, _], _ => rfl
  have gTr := T.fn (x := "_law_tried") (by decide +kernel)
  have FTr : FnP K "_law_tried" "_law_tried" s_tried (ga K "_law_tried") (fd 37) := D 37 _ rfl
  have GTr : FnOk P w K mg base CX0 24 _ (fd 37) ["_law_pen_here", "_law_row", "_law_pairs_here"] (spTried K) := G_tried D T tb
  have bTr : Binds K (fd 37) ["_law_pen_here", "_law_row", "_law_pairs_here"] [] := FTr.bindsN fun _ _ _ _ _ _ us hl => match us, hl with | [_, _, _], _ => rfl
  have gAg := T.fn (x := "_law_agrees") (by decide +kernel)
  have FAg : FnP K "_law_agrees" "_law_agrees" s_agr (ga K "_law_agrees") (fd 38) := D 38 _ rfl
  have GAg : FnOk P w K mg base CX0 12 _ (fd 38) ["_law_row", "_law_pairs_here"] (spAgr K) := G_agr D T
  have bAg : Binds K (fd 38) ["_law_row", "_law_pairs_here"] [] := FAg.bindsN fun _ _ _ _ _ _ us hl => match us, hl with | [_, _], _ => rfl
  have FLi : FnP K "listed" "Row.listed" s_lst (ma K (ga K "Row") "listed") (fd 8) := D 8 _ rfl
  have GLi : FnOk P w K mg base CX0 1 _ (fd 8) ["self"] (spListed K) := ok_lst FLi T
  have bLi : Binds K (fd 8) ["self"] [] := FLi.bindsN fun _ _ _ _ _ _ us hl => match us, hl with | [_], _ => rfl
  have mLi := T.mtR (m := "listed") (by decide +kernel)
  have gH := T.fn (x := "_law_heard") (by decide +kernel)
  have FH : FnP K "_law_heard" "_law_heard" s_heard (ga K "_law_heard") (fd 29) := D 29 _ rfl
  have bH : Binds K (fd 29) ["_law_ask"] [] := FH.bindsN fun _ _ _ _ _ _ us hl => match us, hl with | [_], _ => rfl
  have RH : ∀ base' : Heap, Sub base base' → FnR P w K mg base' CX0 13 _ (spHF 12 P w K mg base') := fun base' s => (FnOk.raw (G_heard FH T) bH .nil).imp fun vs H Q E h => by rw [List.append_nil]; exact h
  have TB := tb (fun K => ga K "law") (by simp [tabs])
  have F : FnP K "law" "law" s_law (ga K "law") (fd 41) := D 41 _ rfl
  obtain ⟨oc, od, dV, kV, doc, pm, an, cdv, ct, osl, e0, lk, hcd, _, _⟩ := F.ex
  rw [e0] at lk ⊢
  obtain ⟨cc, rfl⟩ := codeIn_ref hcd
  have ec : Tw.codeAt K (ga K "law") = cc := by
    unfold Tw.codeAt
    rw [lk]
  rw [ec] at TB
  have hmT : (tabAt K (ga K "law"), nm "law") ∈ Tb K := by simp [Tb]
  refine fng lk hcd sc_law (fun vs H Q E h => ?_) (fun A outer s H vs Q E hr hg h => ?_)
  · obtain ⟨a, ns, rfl, _⟩ := h
    rfl
  · obtain ⟨a0, ns, rfl, hS, hn, hT, k⟩ := h
    refine ⟨_, PSs.nox (pss_cons (ps_set (i := 1) sc_law.nd rfl (Or.inl rfl) (pe_call (E := E0) GPen (hr.mono (by decide)) rfl gPen FPen.kp bPen .nil pass0 (pa_cons (pv 0) pa_nil)))
    (pss_cons (ps_set (i := 2) sc_law.nd rfl (Or.inl rfl) (pe_call (E := E0) GPr (hr.mono (by decide)) rfl gPr FPr.kp bPr .nil pass0 (pa_cons (pv 1) (pa_cons pe_int pa_nil))))
    (pss_cons (ps_set (i := 3) sc_law.nd rfl (Or.inr rfl) (pe_make (E := E0) T.mkR Gr (hr.mono (by decide)) rfl gR (bRow D) .nil passL (pa_cons (pe_call (E := E0) GVa (hr.mono (by decide)) rfl gVa FVa.kp bVa .nil pass0 (pa_cons (pv 1) (pa_cons (pv 2) pa_nil))) pa_nil)))
    (pss_cons (ps_for PassesOwn.never rfl (pi_range1 rfl zr (pa_cons (pe_op op_add pe_int (pe_call (E := E0) GD (hr.mono (by decide)) rfl gD FD.kp bD .nil pass0 (pa_cons (pv 1) (pa_cons pe_int pa_nil)))) pa_nil)) (pg_name (i := 4) sc_law.nd rfl (Or.inl rfl))
    (pss_cons (ps_set (i := 5) sc_law.nd rfl (Or.inl rfl) (pe_call (E := E0) GD (hr.mono (by decide)) rfl gD FD.kp bD .nil pass0 (pa_cons (pv 1) (pa_cons pe_int pa_nil))))
    (pss_mid (ps_if (pt_cmpR op_eq (pv 5) pe_int (nomark _)) (pss_cons (ps_set (i := 2) sc_law.nd rfl (Or.inl rfl) (pe_call (E := E0) GTr (hr.mono (by decide)) rfl gTr FTr.kp bTr .nil pass0 (pa_cons (pv 1) (pa_cons (pv 3) (pa_cons (pv 2) pa_nil)))))
    (pss_one (ps_if (pt_cmpR op_isN (pv 2) pe_non (nomark _)) (pss_one (ps_ret pe_bl)) pss_nil))) (pss_cons (ps_set (i := 6) sc_law.nd rfl (Or.inr rfl) (pe_call (E := E0) GE (hr.mono (by decide)) rfl gE FE.kp bE .nil pass0 (pa_cons (pv 1) (pa_cons (pv 2) pa_nil))))
    (pss_cons (ps_set (i := 7) sc_law.nd rfl (Or.inr rfl) (pe_call (E := E0) GV (hr.mono (by decide)) rfl gV FV.kp bV .nil pass0 (pa_cons (pv 1) (pa_cons (pv 6) pa_nil))))
    (pss_cons (ps_asg (pe_call (E := E0) GS (hr.mono (by decide)) rfl gS FS.kp bS .nil pass0 (pa_cons (pv 2) (pa_cons (pv 6) pa_nil))) (pg_tup (by rfl) (pgs_cons (pg_name (i := 2) sc_law.nd rfl (Or.inl rfl)) (pgs_cons (pg_name (i := 8) sc_law.nd rfl (Or.inl rfl)) pgs_nil))))
    (pss_one (ps_if (pt_cmpR (op_neD hr.units)
        (pe_lamG (E := fun _ => E0) (CX := CX0) (host := host) (L := Tb K) (pre := fun _ => True) (k := 11) (xs := []) (cs := ["_law_row", "_law_deed_here", "_law_values_here"]) (caps := [3, 6, 7]) (tb := fun c' P' E => tCallS (spDo K) (fun _ => E) (tCons (tVar 0) (tCons (tVar 1) (tCons (tVar 2) tNil)))) (Pr := P) (wo := w) (K := K) (mg := mg) (qn := nm "law")
          (by exact ⟨made_def TB rfl hmT, bmIn TB, cellsOut_def (fun _ => rfl), lamQ_by (sc := defScope s_law) (by decide +kernel), (caps_by (N := N_law) (by decide +kernel)), rfl, by decide +kernel, rfl, (fun us _ _ _ _ _ hu => match us, hu with | [], _ => rfl),
            (fun base3 A3 outer3 s3 H3 E3 f3 c3 P3 hsub3 hr3 hout3 => pe_callS (E := fun _ => E3) (GDo base3 hsub3) (hr3.mono (by decide)) rfl gDo FDo.kp bDo (fun σ => fun pins H s e s' I c => (passes_call (takes_of rfl rfl rfl rfl) (fun _ _ _ _ h => h)) pins σ H s e s' I c) (pa_cons (pe_var (x := "_law_row") (i := 0) rfl (.inr (.inr rfl))) (pa_cons (pe_var (x := "_law_deed_here") (i := 1) rfl (.inr (.inr rfl))) (pa_cons (pe_var (x := "_law_values_here") (i := 2) rfl (.inr (.inr rfl))) pa_nil))))⟩)
          RH (hr.mono (by decide)) rfl gH FH.kp (fun σ pins H s e s' I c => c.elim)) (pv 8) (nomark _)) (pss_one (ps_ret pe_bl)) pss_nil))))))
    (pss_mid (ps_if (pt_cmpR op_gt (pe_callB call_len (by rfl) zlen (by decide +kernel) (pa_cons (pv 2) pa_nil)) pe_int (nomark _)) (pss_one (ps_asg (pe_tupN (pa_cons (pe_make (E := E0) T.mkR Gr (hr.mono (by decide)) rfl gR (bRow D) .nil passL (pa_cons (pe_slice (slK K) (pe_meth0 (E := E0) (pv 3) T.clsR mLi GLi (hr.mono (by decide)) bLi .nil pass0) po_none (po_some pe_int)) pa_nil)) (pa_cons (pe_slice (slK K) (pv 2) po_none (po_some pe_int)) pa_nil))) (pg_tup (by rfl) (pgs_cons (pg_name (i := 3) sc_law.nd rfl (Or.inr rfl)) (pgs_cons (pg_name (i := 2) sc_law.nd rfl (Or.inl rfl)) pgs_nil))))) pss_nil)
    (pss_one (ps_if (pt_not (pt_val (pe_call (E := E0) GAg (hr.mono (by decide)) rfl gAg FAg.kp bAg .nil pass0 (pa_cons (pv 3) (pa_cons (pv 2) pa_nil))))) (pss_one (ps_ret pe_bl)) pss_nil))))))
    (pss_one (ps_ret pe_bl)))))), ?_⟩
    refine ⟨_, rfl, a0, ns, rfl, hS, hn, fun pn l H1 f1 P1 s1 => ?_⟩
    refine ⟨_, rfl, pn, l, 20, _, rfl, by decide, P1, by omega, fun f H2 ts ps P2 B2 f2 nf gf pr lp up gs => ?_⟩
    obtain ⟨ns1, pi1, pg1, hp1, _⟩ := id P1
    have T2 : Tk K H2 := tbn_lst (Tbn.ext hT s1) B2 hp1
    refine ⟨_, rfl, _, rfl, pn, l, f, ts, ps, _, rfl, P2, by omega, gf, nf, pr, by omega, (fun q hq => (gs q hq).gd), fun g3 H3 xs P3 B3 f3 ng3 gg3 vv => ?_⟩
    obtain ⟨ns2, pi2, pg2, hp2, _⟩ := id P2
    have T3 : Tk K H3 := tbn_lst T2 B3 hp2
    refine fun x dx h1 h2 h3 => row_to h1 h2 h3 (vals_src (.inl (SqL.of gg3)) vv (by omega)) up (by omega) fun H4 ys s4 ra its => ⟨rfl, ?_⟩
    have S4 : Sx K H4 pn l 400 x f ps := Sx.mono ⟨P3.same s4, ⟨ys, ra, its⟩, ⟨ts, s4 _ _ (B3 _ _ gf nf), pr.keep fun t xs z => s4 _ _ (B3 _ _ z (ne_pen P2 z fun _ z => nomatch z))⟩, Tbn.ext T3 s4, nf⟩ (by omega)
    have R4 : Rw 60 ps := ⟨up_asc up (Nat.le_succ _), gs, by omega⟩
    clear hT s1 T2 T3 vv gg3 P3
    refine ⟨_, rfl, pn, l, 21, 400, rfl, by decide, by decide, S4.P, by omega, fun r H5 r0 r21 P5 B5 => ?_⟩
    have S5 := S4.pen B5 P5
    refine ⟨_, _, rfl, rfl, 10 + r, rfl, by omega, by omega, ?_⟩
    refine for_range (lo := 0) (n := (10 + r).toNat) (fun i σ H' => ∃ (v4 v5 v6 v7 v8 : Option V) (a g : Addr) (ps : List (Int × Str)), σ = [some (.ref a0), some (.ref pn), some (.ref g), some (.ref a), v4, v5, v6, v7, v8] ∧ Sx K H' pn l (401 + 4000 * i) a g ps ∧ Rw 60 ps)
      ⟨none, none, none, none, none, x, f, ps, rfl, S5, R4⟩ ?_ ?_
    · clear S4 S5 R4 P5 B5
      rintro i σ G0 hi ⟨v4, v5, v6, v7, v8, a, g, ps, rfl, S0, R0⟩
      have hi30 : i < 31 := by omega
      refine ⟨_, rfl, pn, l, 6, _, rfl, by decide, by decide, S0.P, by omega, fun wy G1 w0 w6 P1 B1 => ?_⟩
      have S1 := S0.pen B1 P1
      refine ⟨fun σ' H' => ∃ (v4 v5 v6 v7 v8 : Option V) (g : Addr) (ps : List (Int × Str)), σ' = [some (.ref a0), some (.ref pn), some (.ref g), some (.ref a), v4, v5, v6, v7, v8] ∧ Sx K H' pn l (401 + 4000 * i + 2501) a g ps ∧ Rw 200 ps, ?_, ?_⟩
      · refine ⟨_, rfl, rfl, _, rfl, ite2 (fun hz => ?_) (fun hz => ?_)⟩
        · refine ⟨_, rfl, _, rfl, _, rfl, pn, l, a, g, _, ps, rfl, S1, by omega, R0, fun us g' G2 R2 S2 => ?_⟩
          refine ⟨_, rfl, rfl, _, rfl, iteFe (decide_eq_false fun z => nomatch z) ?_⟩
          exact ⟨_, _, _, _, _, g', us, rfl, S2.mono (by omega), ⟨R2.asc, R2.gs, Nat.le_trans R2.few (by decide)⟩⟩
        · obtain ⟨P1', ⟨ys, ra, ia⟩, ⟨ts, hg1, prs1⟩, T1, ng⟩ := id S1
          obtain ⟨da, ta, ha, hta⟩ := id ra
          obtain ⟨ns1, pi1, pg1, hp1, _⟩ := id P1
          refine ⟨_, rfl, _, rfl, pn, l, g, _, ts, ps, rfl, P1, by omega, hg1, ng, prs1, ⟨R0.asc, R0.gs, Nat.le_trans R0.few (by decide)⟩, fun d dd G2 hok de P2 B2 => ?_⟩
          have S2 := S1.pen B2 P2
          have de2 : DeedAt (fun b => b ≠ pn ∧ b ≠ a) G2 dd d := de.mono fun b xs n _ => ⟨(fun z => by rw [z, hp1] at n; cases n), (fun z => by rw [z, ha] at n; cases n)⟩
          obtain ⟨ns2, pi2, pg2, hp2, _⟩ := id P2
          obtain ⟨ys2, ⟨da2, ta2, ha2, hta2⟩, ia2⟩ := S2.row
          refine ⟨_, rfl, _, rfl, (fun b => b ≠ pn ∧ b ≠ a), pn, l, dd, _, d, rfl, (fun b n => n.1), P2, by omega, hok, de2, fun v G3 vl fv P3 B3 => ?_⟩
          have S3 := S2.pen B3 P3
          have de3 := de2.lst (fun b n => n.1) hp2 B3
          have nva : v ≠ a := fun z => by rw [z, ha2] at fv; cases fv
          have nvp : v ≠ pn := fun z => by rw [z, hp2] at fv; cases fv
          obtain ⟨ts3, hg3, prs3⟩ := S3.lst
          obtain ⟨ns3, pi3, pg3, hp3, _⟩ := id P3
          refine ⟨_, rfl, _, rfl, (fun b => b ≠ pn ∧ b ≠ a), g, dd, ts3, ps, d, rfl, hg3, prs3, ⟨R0.asc, R0.gs, Nat.le_trans R0.few (by decide)⟩, hok, de3, fun us wd st t l2 u G4 xs s4 gt hl2 pr2 fl fu wa => ?_⟩
          refine ⟨t, _, rfl, SqT.of gt, rfl, _, _, rfl, _, _, rfl, rfl, ?_⟩
          have S4 := S3.same s4
          have de4 := de3.same s4
          have vl4 : VlC K G4 v d := vl.keep (fun u z _ => s4 _ _ z) (fun b xs z => s4 _ _ z) (fun _ _ _ _ z => s4 _ _ z)
          have nl2 : l2 ≠ pn := by
            rcases fl with h | h
            · exact fun z => by rw [z, hp3] at h; cases h
            · rw [h]
              exact ng
          obtain ⟨ys4, ra4, ia4⟩ := S4.row
          obtain ⟨da4, ta4, ha4, hta4⟩ := id ra4
          have Ru := st.rw R0 hok
          refine ⟨S4.tk, trivial, fun f9 c9 P9 H9 base9 e9 T9 T9' hc9 hfa9 FL9 => ?_⟩
          refine ⟨f9, _, rfl, hfa9, FL9, fun E' Q' herr hok' => ?_⟩
          have dv9 := (DvAt.mk de4 vl4 ⟨nvp, nva⟩).ext e9
          have ha9 := e9 _ _ ha4 fun _ z => nomatch z
          have hta9 := e9 _ _ hta4 fun _ z => nomatch z
          have ra9 : RowAt K H9 a ys4 := ⟨da4, ta4, ha9, hta9⟩
          have ia9 := its_ext e9 ia4
          have hwd : WdOk wd := st.word
          refine ⟨rfl, hc9, _, rfl, _, rfl, _, rfl, (fun b => b ≠ pn ∧ b ≠ a), a, dd, v, da4, ta4, ys4, ps, d, rfl, ha9, hta9, ia9, ⟨R0.asc, R0.gs, Nat.le_trans R0.few (by decide)⟩, hok, dv9.de, dv9.vl.vl hok, T9, fun us2 w2 st2 => ?_⟩
          obtain ⟨z1, z2⟩ := st2.uniq st
          subst z1 z2
          have lsB : ∀ {G : Hp} {b : Addr} {xs : List V}, ButN a H9 G → G4 b = some (.lst xs) → G b = some (.lst xs) := fun {G b xs} bn h => bn _ _ (e9 _ _ h fun _ z => nomatch z) (lst_ne ra9 (e9 _ _ h fun _ z => nomatch z)) fun _ z => nomatch z
          have tpB : ∀ {G : Hp}, ButN a H9 G → ∀ b xs, G4 b = some (.tup xs) → G b = some (.tup xs) := fun {G} bn b xs h => bn _ _ (e9 _ _ h fun _ z => nomatch z) (fun q => by
            have z := e9 _ _ h fun _ z => nomatch z
            rw [q, ha9] at z
            cases z) fun _ z => nomatch z
          refine ⟨fun hw H' ys' bn T' r' i' => ?_, fun x n hw hx b H' s' g' => ?_⟩
          · refine hok' _ H' fun q17 H17 f17 s17 g17 => ?_
            have S17 := ((S4.ext e9 T9).but bn T' r' i' (lsB bn hl2) (pr2.keep (tpB bn)) nl2).same s17
            have w17 : WdAt H17 u w2 := (wa.keep (tpB bn) fun xs h => lsB bn h).same s17
            have v17 : WdAt H17 q17 w2 := by rw [hw]; exact g17
            refine ⟨_, rfl, wordD w2, wordD w2, dp_wd v17, dp_wd w17, shaped_wd hwd, shaped_wd hwd, _, rfl, ?_⟩
            rw [eqv_wd hwd]
            exact iteF ⟨_, _, _, _, _, l2, us2, rfl, S17.mono (by omega), ⟨Ru.asc, Ru.gs, Nat.le_trans Ru.few (by decide)⟩⟩
          · have uu : us2 = ps := st.fail (by rw [hw]; exact fun z => nomatch z)
            subst uu
            obtain ⟨kx, hkx⟩ : ∃ kx : Nat, (x, kx, ("at" : Str)) ∈ errs := by
              rcases hx with rfl | rfl
              · exact ⟨6, by decide +kernel⟩
              · exact ⟨7, by decide +kernel⟩
            have bn : ButN a H9 H' := ButN.but (But.of s')
            refine herr _ _ H' ⟨(x, kx, "at"), n, b, hkx, rfl, rfl, g', fun q17 H17 f17 s17 g17 => ?_⟩
            have S17 := ((S4.ext e9 T9).but bn (Tbn.ext T9 s') (ra9.same s') (ia9.same s') (lsB bn hl2) (pr2.keep (tpB bn)) nl2).same s17
            have w17 : WdAt H17 u w2 := (wa.keep (tpB bn) fun xs h => lsB bn h).same s17
            have v17 : WdAt H17 q17 w2 := by rw [hw]; exact g17
            refine ⟨_, rfl, wordD w2, wordD w2, dp_wd v17, dp_wd w17, shaped_wd hwd, shaped_wd hwd, _, rfl, ?_⟩
            rw [eqv_wd hwd]
            exact iteF ⟨_, _, _, _, _, l2, us2, rfl, S17.mono (by omega), ⟨Ru.asc, Ru.gs, Nat.le_trans Ru.few (by decide)⟩⟩
      · rintro σ' G2 ⟨v4, v5, v6, v7, v8, g, ps, rfl, S2, R2⟩
        refine ⟨fun σ' H' => ∃ (v4 v5 v6 v7 v8 : Option V) (a g : Addr) (ps : List (Int × Str)), σ' = [some (.ref a0), some (.ref pn), some (.ref g), some (.ref a), v4, v5, v6, v7, v8] ∧ Sx K H' pn l (401 + 4000 * i + 2501) a g ps ∧ Rw 60 ps, ?_, ?_⟩
        · obtain ⟨P2, ⟨ys, ra, ia⟩, ⟨ts, hg2, prs2⟩, T2, ng⟩ := id S2
          obtain ⟨da, ta, ha, hta⟩ := id ra
          have lt : ts.length = ps.length := Paired.length prs2
          have ly := its_len ia
          have lm := R2.few
          refine ⟨_, rfl, .ref g, ts.length, rfl, .inl ⟨ts, SqL.of hg2, rfl⟩, _, _, rfl, rfl, _, rfl, ite2 (fun hz => ?_) (fun hz => ?_)⟩
          · have asc10 : Asc (ps.take 10) := R2.asc.sublist (List.take_sublist _ _)
            have it10 : Its K G2 (ys.take 10) (ps.take 10) := paired_tk 10 ia
            have pr10 : Prs G2 (ts.take 10) (ps.take 10) := paired_tk 10 prs2
            have l10 : (ps.take 10).length ≤ 10 := by rw [List.length_take]; omega
            refine ⟨_, rfl, a, da, _, rfl, ha, rfl, a, ys, rfl, ra, fun l5 H5 f5 s5 g5 => ⟨_, rfl, l5, ys, rfl, SqL.of g5, fun q6 H6 f6 s6 g6 => ?_⟩⟩
            rw [show (10 : Int) = ((10 : Nat) : Int) from rfl, cutTake] at g6
            have s26 := s5.trans s6
            refine fun x dx h1 h2 h3 => row_to h1 h2 h3 (its_src (.inl (SqL.of g6)) (it10.same s26) (by omega)) (asc_up asc10) (by omega) fun H7 yz s7 rz iz => ⟨rfl, ?_⟩
            have s27 := s26.trans s7
            refine ⟨_, rfl, _, rfl, g, ts, rfl, SqL.of (s27 _ _ hg2), fun q8 H8 f8 s8 g8 => ⟨sz1000 (by show 2 ≤ 1000; decide), fun tt H9 f9 s9 g9 => ⟨tt, _, rfl, SqT.of g9, rfl, _, _, rfl, _, _, rfl, rfl, ?_⟩⟩⟩
            rw [show (10 : Int) = ((10 : Nat) : Int) from rfl, cutTake] at g8
            have s79 := s8.trans s9
            have s29 := s27.trans s79
            refine ⟨_, _, _, _, _, x, q8, ps.take 10, rfl, ⟨P2.same s29, ⟨yz, rz.same s79, iz.same s79⟩, ⟨_, s9 _ _ g8, prs_same s29 pr10⟩, Tbn.ext T2 s29, ((P2.same s27).new f8).1⟩, asc10, fun q hq => R2.gs q (List.mem_of_mem_take hq), by omega⟩
          · have hz : ¬ (60 : Int) < (ts.length : Int) := fun z => hz (decide_eq_true z)
            exact ⟨_, _, _, _, _, a, g, ps, rfl, S2, R2.asc, R2.gs, by omega⟩
        · rintro σ3 G3 ⟨v4, v5, v6, v7, v8, a, g, ps, rfl, S3, R3⟩
          obtain ⟨ys, ra, ia⟩ := S3.row
          obtain ⟨ts, hg3, prs3⟩ := S3.lst
          refine ⟨_, rfl, _, rfl, a, g, ys, ts, ps, rfl, ra, ia, hg3, prs3, ⟨R3.asc, R3.gs, Nat.le_trans R3.few (by decide)⟩, fun H' s' => ⟨true, rfl, iteF ?_⟩⟩
          exact ⟨_, _, _, _, _, a, g, ps, rfl, (S3.same s').mono (by omega), R3⟩
    · rintro σ G ⟨v4, v5, v6, v7, v8, a, g, ps, rfl, S0, R0⟩
      exact k _
end
end K10
namespace K10
open PySem PySem.Spec PyProof.Rows L2 He Tw
theorem find_nd : ∀ {L : List (Addr × Str)} {p : Addr × Str}, (L.map (·.1)).Nodup → p ∈ L → L.find? (fun q => decide (q.1 = p.1)) = some p
  | [], _, _, h => nomatch h
  | q :: L, p, nd, h => by
    obtain ⟨n1, n2⟩ := List.nodup_cons.mp nd
    rcases List.mem_cons.mp h with rfl | h
    · exact List.find?_cons_of_pos (decide_eq_true rfl)
    · have n : ¬ (decide (q.1 = p.1) = true) := fun z => by
        have e : q.1 = p.1 := of_decide_eq_true z
        exact n1 (List.mem_map.mpr ⟨p, h, e.symm⟩)
      rw [List.find?_cons_of_neg (p := fun q : Addr × Str => decide (q.1 = p.1)) n]
      exact find_nd n2 h
/-- tables of which none holds anything yet -/
theorem tbn_nil {L : List (Addr × Str)} {H : Hp} (nd : (L.map (·.1)).Nodup) (h : ∀ p ∈ L, H p.1 = some (.tbl #[])) : Tbn host L H := by
  refine ⟨fun P => (L.find? fun q => decide (q.1 = P)).map (·.2), fun p hp => ?_, fun P q hq => ⟨#[], ?_, trivial, fun pos cv hc => nomatch hc⟩⟩
  · show (L.find? fun q => decide (q.1 = p.1)).map (·.2) = some p.2
    rw [find_nd nd hp]
    rfl
  · obtain ⟨p, hf, _⟩ := Option.map_eq_some_iff.mp hq
    have e : p.1 = P := of_decide_eq_true (List.find?_some (p := fun q : Addr × Str => decide (q.1 = P)) hf)
    rw [← e]
    exact h p (List.mem_of_find?_eq_some hf)
end K10
/-! Tw: the law's end with tables of code objects, where no repr runs around. -/
namespace Tw
open PySem PySem.Spec PyProof.Rows L2 LamX
theorem law_tabG {P : Program} {w : World} {K : PySem.W.Frag} {mg mb : Str → Option Value} {CX : CXT} {k : Nat} {fa a : Addr} {cs : List (Addr × Addr)} {fd : FuncData} {x : Str} {sp : Sp} {s0 : Shared} {vs : List Value} {ns : List Int}
    (KX : K.In s0.heap) (hns : s0.heap.Ns mainGlobals mg) (hb : s0.heap.Ns builtinsNs mb) (hbb : ∀ x : Str, x ≠ "__name__" → mb x = bootBuiltins x) (hlim : s0.heap.NoLimit) (hg : s0.gens = #[])
    (hT : ∀ p ∈ cs, s0.heap.get? p.2 = some { cls := .none, data := .fields #[] }) (nT : ∀ p ∈ cs, K.lookup p.2 = none) (C : ∀ p ∈ cs, PySem.W.CodeHd s0.heap p.1 p.2)
    (hbm : ∃ (bm : Addr) (ob : Obj), mg "__builtins__" = some (.ref bm) ∧ bm ≠ builtinsNs ∧ s0.heap.get? bm = some ob ∧ ob.cls = .type "module" ∧ ob.dict = some builtinsNs ∧ ob.data = .plain)
    (ha : s0.heap.get? a = some { cls := .type "list", data := .seq vs.toArray }) (hi : IntsAre vs ns) (hl : ns.length ≤ sizeLine) (hr : Room k callerA)
    (F : ∀ base : Heap, K.In base → base.Ns mainGlobals mg → (∀ p ∈ cs, TabB base mg p.1 p.2) → FnG P w K mg base CX k fa fd [x] sp) (hbind : ∀ (s : Shared) (u : Value), BindsTo s fd ⟨[u], []⟩ [(x, u)])
    (hsp : ∀ H : Hp, (∀ p ∈ cs, H p.2 = some (.tbl #[])) → SqL K H a (ns.map V.int) → sp [.ref a] H (fun v _ => v = .bl true) fun _ _ _ => False)
    (hCX : ∀ H e s', CX [] H s0 (fun _ _ _ => False) e s' → False) :
    codeAny (model P w) callerA (.call (.ref fa) ⟨[.ref a], []⟩) (fun r s' => r = .ok (.ret (.bool true)) ∧ OldK s0.heap s'.heap ∧ s'.os = s0.os ∧ AllBare s'.gens) s0 := by
  have rv := vals_ints hi
  have lenVs := hi.length
  have atTab : ∀ b : Addr, b ∈ cs.map (·.2) → s0.heap.get? b = some { cls := .none, data := .fields #[] } := fun b hb => by
    obtain ⟨p, hp, e⟩ := List.mem_map.mp hb
    rw [← e]
    exact hT p hp
  have notTab : a ∉ cs.map (·.2) := fun z => by
    have q := atTab a z
    rw [ha] at q
    have z' : Data.seq vs.toArray _ = Data.fields #[] := congrArg Obj.data (Option.some.inj q)
    cases z'
  have inTab : ∀ p ∈ cs, p.2 ∈ cs.map (·.2) := fun p hp => List.mem_map.mpr ⟨p, hp, rfl⟩
  -- from an abstract heap in which nothing but the script and the tables may be tracked
  have body : ∀ H : Hp, (∀ p ∈ cs, H p.2 = some (.tbl #[])) → (∀ b, H b = none ∨ b ∈ cs.map (·.2) ∨ ∃ o xs, H b = some (.frz o (.lst xs))) → SqL K H a (ns.map V.int) → HOk P w H s0.heap → (∀ b, H b ≠ none → b = a ∨ b ∈ cs.map (·.2)) → (H a ≠ none → K.lookup a = none) →
      codeAny (model P w) callerA (.call (.ref fa) ⟨[.ref a], []⟩) (fun r s' => r = .ok (.ret (.bool true)) ∧ OldK s0.heap s'.heap ∧ s'.os = s0.os ∧ AllBare s'.gens) s0 := by
    intro H hH hO hS hok hA hK
    have getHid : ∀ {b : Addr} {o : Obj}, s0.heap.get? b = some o → H b = none → (hidT s0.heap H).get? b = some o := fun e n => hidT_get e n
    have noDat : ∀ {b : Addr} {o : Obj}, s0.heap.get? b = some o → (∀ vs n, o.data ≠ .seq vs n) → o.data ≠ .fields #[] → H b = none := fun {b o} e h1 h2 => by
      cases q : H b with
      | none => rfl
      | some u =>
        rcases hA b (by rw [q]; simp) with e' | e'
        · rw [e', ha] at e
          cases e
          exact (h1 _ _ rfl).elim
        · rw [atTab b e'] at e
          cases e
          exact (h2 rfl).elim
    have noDic : ∀ {b : Addr} {o : Obj} {es : Array DictEntry} {ep : Nat}, s0.heap.get? b = some o → o.data = .dict es ep → H b = none := fun {b o es ep} e d => by
      refine noDat e (fun vs n z => ?_) fun z => ?_
      · rw [d] at z
        cases z
      · rw [d] at z
        cases z
    have nsHid : ∀ {b : Addr} {m : Str → Option Value}, s0.heap.Ns b m → (hidT s0.heap H).Ns b m := fun {b m} ⟨o, es, ep, e, d, r⟩ => ⟨o, es, ep, getHid e (noDic e d), d, r⟩
    have kHid : K.In (hidT s0.heap H) := fun b o e => getHid (KX b o e) (by
      cases q : H b with
      | none => rfl
      | some u =>
        rcases hA b (by rw [q]; simp) with e' | e'
        · rw [e'] at e q
          rw [hK (by rw [q]; simp)] at e
          cases e
        · obtain ⟨p, hp, ep⟩ := List.mem_map.mp e'
          rw [← ep, nT p hp] at e
          cases e)
    have hMod : L2.Mod K mg (hidT s0.heap H) := ⟨kHid, nsHid hns, ⟨mb, nsHid hb, hbb⟩, let ⟨mc, h1, h2⟩ := hlim; ⟨mc, nsHid h1, h2⟩⟩
    have TB : ∀ p ∈ cs, TabB (hidT s0.heap H) mg p.1 p.2 := fun p hp => by
      have hTp := hT p hp
      refine ⟨?_, ?_, fun z => ?_⟩
      · obtain ⟨o, us, file, tf, flags, tg, inF, text, tt, e1, r1, r2, r3, r4, r5, r6, r7, r8, hne⟩ := C p hp
        refine ⟨o, us, file, tf, flags, tg, inF, text, tt, getHid e1 (noDat e1 (fun vs n z => ?_) fun z => ?_), r1, r2, r3, r4, r5, r6, r7, r8, hne⟩
        · rw [r2] at z
          cases z
        · rw [r2] at z
          cases z
          simp at r3
      · obtain ⟨bm, ob, b1, b2, b3, b4, b5, b6⟩ := hbm
        have nG : bm ≠ mainGlobals := fun q => by
          obtain ⟨o, es, ep, e, hd, _⟩ := hns
          rw [q, e] at b3
          cases b3
          rw [hd] at b6
          cases b6
        have nP : bm ≠ p.2 := fun q => by
          rw [q, hTp] at b3
          cases b3
          cases b6
        refine ⟨bm, ob, b1, b2, nG, nP, getHid b3 (noDat b3 (fun vs n z => ?_) fun z => ?_), b4, b5, b6⟩
        · rw [b6] at z
          cases z
        · rw [b6] at z
          cases z
      · obtain ⟨o, es, ep, e, hd, _⟩ := hns
        rw [z, hTp] at e
        cases e
        cases hd
    have e0 : Env0 P w K mg (hidT s0.heap H) callerA [] s0 H := ⟨rfl, hMod, fun b o e => of_hidT e, Nat.le_of_eq (hidT_size _ _), trivial, fun b hb => absurd (show b ∈ ([] : List Addr) from hb) (by simp), hok, .of_eq hg⟩
    refine codeAny_mono ((F _ kHid (nsHid hns) TB).run callerA [] s0 H ⟨[.ref a], []⟩ [.ref a] [.ref a] _ _ hr rfl e0 (hbind s0 (.ref a)) (.cons rfl .nil) (hsp H hH hS)) fun r s' h => ?_
    cases r with
    | error e => exact (hCX H e s' h).elim
    | ok fl =>
      cases fl with
      | next => exact False.elim h
      | brk => exact False.elim h
      | cont => exact False.elim h
      | ret u =>
        obtain ⟨v, H', os, bare, un, hok', r', q⟩ := h
        have q' : v = .bl true := q
        subst q'
        obtain rfl : u = Value.bool true := r'
        have keepB : ∀ b o, b ∉ cs.map (·.2) → s0.heap.get? b = some o → s'.heap.get? b = some o := fun b o nb e => by
          cases q : H b with
          | none => exact un.keep b o e q (by intro z; exact absurd (show b ∈ ([] : List Addr) from z) (by simp)) (by simp)
          | some u =>
            rcases hO b with z | z | ⟨ob, xs, z⟩
            · rw [q] at z; cases z
            · exact absurd z nb
            · have z2 := un.frzs b ob _ z
              obtain ⟨e1, _⟩ := hok b _ z
              obtain ⟨e2, _⟩ := hok' b _ z2
              rw [e] at e1; cases e1
              exact e2
        have more : ∀ p ∈ cs, ∃ mo : Array Value, s'.heap.get? p.2 = some { cls := .none, data := .fields mo } := fun p hp => by
          obtain ⟨mo, z⟩ := un.tbls p.2 #[] (hH p hp)
          exact ⟨_, hok' p.2 _ z⟩
        refine ⟨rfl, ⟨fun b o e => ?_, fun b o e => ?_⟩, os, bare⟩
        · by_cases hb : b ∈ cs.map (·.2)
          · obtain ⟨p, hp, ep⟩ := List.mem_map.mp hb
            obtain ⟨mo, hm⟩ := more p hp
            rw [← ep] at e ⊢
            rw [hT p hp] at e
            cases e
            exact .inr (.inl ⟨((C p hp).tab (hT p hp)).isCodeTable, rfl, #[], mo, rfl, by rw [Array.empty_append]; exact hm⟩)
          · exact .inl (keepB b o hb e)
        · by_cases hb : b ∈ cs.map (·.2)
          · obtain ⟨p, hp, ep⟩ := List.mem_map.mp hb
            obtain ⟨mo, hm⟩ := more p hp
            rw [← ep]
            exact ⟨_, hm⟩
          · exact ⟨o, keepB b o hb e⟩
  cases hk : K.lookup a with
  | some o =>
    have e := KX a o hk
    rw [ha] at e
    cases e
    refine body (fun b => if b ∈ cs.map (·.2) then some (.tbl #[]) else none) (fun p hp => if_pos (inTab p hp)) (fun b => ?_) (.inr ⟨_, vs.toArray, _, hk, rfl, rfl, rfl, by rw [List.size_toArray, lenVs]; exact hl, by simpa using rv⟩) (fun b u z => ?_) (fun b z => ?_) fun z => absurd (show (if a ∈ cs.map (·.2) then some (HO.tbl #[]) else none) = none from if_neg notTab) z
    · by_cases hb : b ∈ cs.map (·.2)
      · exact .inr (.inl hb)
      · exact .inl (if_neg hb)
    · by_cases hb : b ∈ cs.map (·.2)
      · have z' := (if_pos hb).symm.trans z
        cases z'
        exact atTab b hb
      · have z' := (if_neg hb).symm.trans z
        cases z'
    · by_cases hb : b ∈ cs.map (·.2)
      · exact .inr hb
      · exact absurd (if_neg hb) z
  | none =>
    refine body (fun b => if b = a then some (.frz { cls := .type "list", data := .seq vs.toArray } (.lst (ns.map V.int))) else if b ∈ cs.map (·.2) then some (.tbl #[]) else none) (fun p hp => (if_neg (show ¬ p.2 = a from fun z => notTab (by rw [← z]; exact inTab p hp))).trans (if_pos (inTab p hp))) (fun b => ?_)
      (.inl (.inr ⟨{ cls := .type "list", data := .seq vs.toArray }, if_pos rfl⟩)) (fun b u z => ?_) (fun b z => ?_) fun _ => hk
    · by_cases hb : b = a
      · exact .inr (.inr ⟨_, _, if_pos hb⟩)
      · by_cases hb2 : b ∈ cs.map (·.2)
        · exact .inr (.inl hb2)
        · exact .inl ((if_neg hb).trans (if_neg hb2))
    · by_cases hb : b = a
      · have z' := (if_pos hb).symm.trans z
        cases z'
        rw [hb]
        exact ⟨ha, by rw [List.length_map]; exact hl, vs, _, rv, ha⟩
      · have z1 := (if_neg hb).symm.trans z
        by_cases hb2 : b ∈ cs.map (·.2)
        · have z' := (if_pos hb2).symm.trans z1
          cases z'
          exact atTab b hb2
        · have z' := (if_neg hb2).symm.trans z1
          cases z'
    · by_cases hb : b = a
      · exact .inl hb
      · by_cases hb2 : b ∈ cs.map (·.2)
        · exact .inr hb2
        · exact absurd ((if_neg hb).trans (if_neg hb2)) z
/-- what is known of the law's promise at the head's heap -/
def LawAtG (l : PySem.W.OpenLaw) (w : World) (K : PySem.W.Frag) (CX : CXT) (k n : Nat) (x : Str) (mg : Str → Option Value) (fa : Addr) (h : Heap) : Prop :=
  ∃ (fd : FuncData) (cs : List (Addr × Addr)) (sp : Sp), (∀ p ∈ cs, h.get? p.2 = some { cls := .none, data := .fields #[] }) ∧ (∀ p ∈ cs, K.lookup p.2 = none) ∧ (∀ p ∈ cs, PySem.W.CodeHd h p.1 p.2) ∧ (∀ (s : Shared) (u : Value), BindsTo s fd ⟨[u], []⟩ [(x, u)]) ∧
    (∀ (H : Hp) (a : Addr) (ns : List Int), ns.length ≤ n → (∀ z ∈ ns, Builtin.Int.intBits z ≤ 1048576) → (∀ p ∈ cs, H p.2 = some (.tbl #[])) → SqL K H a (ns.map V.int) → sp [.ref a] H (fun v _ => v = .bl true) fun _ _ _ => False) ∧
    ∀ base : Heap, K.In base → base.Ns mainGlobals mg → (∀ p ∈ cs, TabB base mg p.1 p.2) → FnG l.prog w K mg base CX k fa fd [x] sp
theorem walk_ofTsG {l : PySem.W.OpenLaw} {n k : Nat} {q : Program} {loose : List Str} {XP : (Str → Option Value) → Heap → Prop} {YP : World → Heap → Prop} {d : DefRec} {CX : World → CXT} {x : Str}
    (hn : l.most = some n) (hn2 : n ≤ sizeLine) (hdf : d.params.defaults = []) (hr : Room k callerA)
    (F : ∀ (w : World) (mg : Str → Option Value) (fa : Addr) (h : Heap), YP w h → h.Ns mainGlobals mg → mg d.name = some (.ref fa) → ∃ K : PySem.W.Frag, K.In h ∧ LawAtG l w K (CX w) k n x mg fa h)
    (hCX : ∀ (w : World) (H : Hp) (s : Shared) (e : Value) (s' : Shared), CX w [] H s (fun _ _ _ => False) e s' → False) :
    PySem.W.WalkO q loose XP YP l.row.toRowW d [] (fun f vs => PySem.call f vs) := by
  refine Att.attach_callB hn hdf fun w s₀ s1 mg mb fa o pm cd doc a vs ns G Y ho hd hcd hmg hobj hints hlen hbits hg => ?_
  obtain ⟨K, KX, fd, cs, sp, hT, nT, C, hb, hsp, hF⟩ := F w mg fa _ Y G.T.g hmg
  exact law_tabG KX G.T.g G.T.b G.T.builtins G.T.nolimit hg hT nT C G.T.bmain hobj hints (Nat.le_trans hlen hn2) hr hF hb (fun H hH hS => hsp H a ns hlen hbits hH hS) fun H e s' => hCX w H s1 e s'
end Tw
namespace K10
open PySem PySem.Spec PyProof.Rows L2 He Tw
theorem facts {P : Program} {w : World} {K : Fg} {h : Heap} {mg : Str → Option Value} (X : K.In h) (G : h.Ns mainGlobals mg) (c : SaysZ fs fn K) :
    ∃ (u : FuncData), Txt K mg ∧ (∀ (s : Shared) (v : Value), BindsTo s u ⟨[v], []⟩ [("_law_script", v)]) ∧ ∀ base : Heap, K.In base → base.Ns mainGlobals mg → (∀ p ∈ csZ ls K, LamX.TabB base mg p.1 p.2) → FnG P w K mg base CX0 34 (ga K "law") u ["_law_script"] (spLaw K) := by
  obtain ⟨fd, D⟩ := c.defs (d0 := fn.headD (dF "law" 49)) rfl
  have T : Txt K mg := ⟨c, fun x hx => He.glo_ok X G hx, fun x hx => He.free_ok X G hx, fun x i hx => He.int_ok X G hx, fun x z hx => He.str_ok X G hx⟩
  have F : FnP K "law" "law" s_law (ga K "law") (fd 41) := D 41 _ rfl
  have b : ∀ (s : Shared) (us : List Value), us.length = (["_law_script"] : List Str).length → BindsTo s (fd 41) ⟨us, []⟩ ((["_law_script"] : List Str).zip us) := FunD.bindsA (ps := ["_law_script"]) F fun _ _ _ _ _ _ us hl => match us, hl with | [_], _ => rfl
  exact ⟨fd 41, T, fun s v => b s [v] rfl, fun base _ _ tb => G_law D T fun f hf => tb _ (List.mem_map.mpr ⟨f, hf, rfl⟩)⟩
end K10
open PySem PySem.W PySem.Calls PyProof.Rows
set_option maxHeartbeats 0 in
theorem PySem.Challenge.cw_twoheads_k10_whole_histories_of_rows_holds : PySem.Challenge.rw_twoheads_k10_whole_histories_of_rows.Holds := by
  w_on; o_law
  refine HandSHeadRun.head_any (r := OpenLaw.row PySem.Challenge.rw_twoheads_k10_whole_histories_of_rows) (q := view (OpenLaw.row PySem.Challenge.rw_twoheads_k10_whole_histories_of_rows).prog [47]) (H := K10.hk) (ob := K10.ob) (M := 9000) (loose := K10.others) (d := HandSHeadRun.topDef (OpenLaw.row PySem.Challenge.rw_twoheads_k10_whole_histories_of_rows).prog 47) (kwd := []) K10.ob_eq
    (by kernel_rfl) (fun s => by kernel_rfl) K10.run (by kernel_rfl) (by kernel_rfl) (by kernel_rfl) (by rfl) (by first | assumption | decide +kernel) (by decide +kernel) ⟨rfl, rfl, rfl, rfl, rfl, by decide +kernel⟩ ?hw ?hc
  case hw => w_witness2
  case hc =>
    refine Tw.walk_ofTsG (l := PySem.Challenge.rw_twoheads_k10_whole_histories_of_rows) (n := 63) (k := 34) (x := "_law_script") (CX := fun _ => L2.CX0) rfl (by decide) (by kernel_rfl) ⟨rfl, by decide, by decide⟩ ?F (fun _ _ _ _ _ z => z)
    intro w mg fa h Y G hmg0
    obtain ⟨K, KX, c, tabs⟩ := Y
    have hmg : mg ("law" : PySem.Str) = some (.ref fa) := by
      have e : (HandSHeadRun.topDef (OpenLaw.row PySem.Challenge.rw_twoheads_k10_whole_histories_of_rows).prog 47).name = ("law" : PySem.Str) := by kernel_rfl
      rw [← e]
      exact hmg0
    obtain ⟨fd, T, hb, hF⟩ := K10.facts (P := (PySem.Challenge.rw_twoheads_k10_whole_histories_of_rows).prog) (w := w) KX G c
    have T0 : mg ("law" : PySem.Str) = some (.ref (He.ga K "law")) := T.fn (x := "law") (by decide +kernel)
    have ef : fa = He.ga K "law" := by
      rw [hmg] at T0
      exact Value.ref.inj (Option.some.inj T0)
    subst ef
    have tb : ∀ f ∈ K10.ls, Tw.tabB K (f K) = true := fun f hf => T.tab hf
    refine ⟨K, KX, fd, Tw.csZ K10.ls K, K10.spLaw K, fun p hp => ?_, fun p hp => ?_, fun p hp => ?_, hb, fun H a ns hl _ hH hS => ⟨a, ns, rfl, hS, hl, K10.tbn_nil ?_ (fun q hq => ?_), fun _ => rfl⟩, hF⟩
    · obtain ⟨f, hf, rfl⟩ := List.mem_map.mp hp
      exact Tw.isTab_ok (tabs f hf)
    · obtain ⟨f, hf, rfl⟩ := List.mem_map.mp hp
      exact Option.isNone_iff_eq_none.mp (Bool.and_eq_true_iff.mp (tb f hf)).2
    · obtain ⟨f, hf, rfl⟩ := List.mem_map.mp hp
      exact PySem.W.codeHd_of_K KX (Bool.and_eq_true_iff.mp (tb f hf)).1
    · exact T.tabnd
    · have hm : q.1 ∈ (K10.tabs.map fun f => Tw.tabAt K (f K)) := List.mem_map.mpr (by
        have h1 : q.1 ∈ (K10.Tb K).map (·.1) := List.mem_map.mpr ⟨q, hq, rfl⟩
        exact List.mem_map.mp (show q.1 ∈ (K10.tabs.map fun f => Tw.tabAt K (f K)) from h1))
      obtain ⟨f, hf, e⟩ := List.mem_map.mp hm
      have := hH (Tw.codeAt K (f K), Tw.tabAt K (f K)) (List.mem_map.mpr ⟨f, hf, rfl⟩)
      rw [← e]
      exact this
#print axioms PySem.Challenge.cw_twoheads_k10_whole_histories_of_rows_holds
