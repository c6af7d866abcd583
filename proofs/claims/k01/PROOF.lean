import PyProof.Rows.All
import Wide.All
import OpenK.AllK
import Wide.FinOn
import KE.KStateDown
import Lean
import HandS.ForMost
import HandS.WordsExc
import HandS.Defaults
import HandS.Head0
import HandS.Head1
import HandS.Head2
import HandS.HeadEnd
import HandS.HeadHook1
import HandS.HeadHook2
import KE.DatumOrd
import PyProof.ListStr
import PyProof.StrOps2
import PyProof.ReprRoads
import HandS.Style
import HandS.Strs
import HandS.Star
import HandS.IsInst
import PyProof.Rows.SetFrom
import HandS.SetKeys
import PyProof.ReprBulk
import HandS.Walk
import KE.DatumMoreOrd
import HandS.DictTup
import HandS.DictComp
import HandS.Rev
import HandS.Zip
import HandS.TupAny
import HandS.Text
import HandS.More
import HandS.SetBool
import PyProof.Rows.SortShellAny
import HandS.TupSets
import HandS.SortRule
import KE.SortData
import HandS.RevTup
import PyProof.FactsAll.subtypes_3
import PyProof.FactsAll.NoneType_1
import KE.KRevSl
import HandS.SlotsOwn
import HandS.Property
import HandS.MakeKw
import KE.GoesEnum
import HandS.TupMul
import KE.KCallOwn
import HandS.ExcInit
import HandS.ExcIs
import HandS.ExcValue
import HandS.ExcBuiltin
import HandS.ExcField
import HandS.HotCalls
import KE.KExcInit
import KE.KExcIs
import HandS.FStr
import HandS.Conv
import PyProof.ListRange
import HandS.Wide
import PyProof.FitsInt
import HandS.HeadNt
import HandS.Ends
import HandS.Words
import PySem.Challenge.RW_streamwrights_k01_formats_of_any_value
set_option Elab.async false
set_option linter.all false
set_option maxRecDepth 100000
set_option maxHeartbeats 0
namespace Sw
open PySem PySem.Spec PyProof.Rows L2
/-! ### defs that are called where no repr is under way -/
structure FnG (P : Program) (w : World) (K : PySem.W.Frag) (mg : Str → Option Value) (base : Heap) (k : Nat) (f : Addr) (fd : FuncData) (ps : List Str) (sp : Sp) : Prop where
  len : ∀ vs H Q E, sp vs H Q E → vs.length = ps.length
  run : ∀ (A : Around) (out : List Env) (s : Shared) (H : Hp) (args : Args) (us : List Value) (vs : List V) (Q : VK) (E : XK), A.guards = some [] → Room k A → Env0 P w K mg base A out s H →
    BindsTo s fd args (ps.zip us) → Vals vs us → sp vs H Q E → codeAny (model P w) A (.call (.ref f) args) (CR CX0 out P w H s Q E) s
section
variable {P : Program} {w : World} {K : PySem.W.Frag} {mg : Str → Option Value} {base : Heap} {k : Nat} {f : Addr} {fd : FuncData} {ps : List Str} {sp : Sp}
theorem fng_ok (F : FnOk P w K mg base CX0 k f fd ps sp) : FnG P w K mg base k f fd ps sp :=
  ⟨F.len, fun A out s H args us vs Q E _ hr he hb hv h => F.run A out s H args us vs Q E hr he hb hv h⟩
/-- a def's body, told that no repr is under way -/
theorem fng_of {x q : Str} {pa : Arguments} {bo : List Stmt} {sc : Scope} {N : List Str} (F : FunD K x q pa bo sc [] [] f fd) (S : FnScope N ps sc) (hl : ∀ vs H Q E, sp vs H Q E → vs.length = ps.length)
    (hbo : ∀ (cv : Value) (A : Around) (out : List Env) (s : Shared) (H : Hp) (vs : List V) (Q : VK) (E : XK), A.guards = some [] → Room k (A.deeper (envOfC q sc s.heap.objs.size f cv)) → sp vs H Q E →
      ∃ t, PSs (cxOf CX0 P w K mg base N q sc f cv A out s H E) bo t ∧ t { nx := fun _ H' => Q .non H', rt := Q } (start N vs) H) : FnG P w K mg base (k + 1) f fd ps sp := by
  obtain ⟨oc, od, dV, kV, doc, pm, an, cv, ct, osl, rfl, lk, hco, _, _⟩ := F.ex
  refine ⟨hl, fun A out s H args us vs Q E hG hr he hb rv hs => ?_⟩
  have vl := hl _ _ _ _ hs
  have kin : K.In s.heap := he.mod.kin.keeps fun b o z => (he.bs b o z).1
  have nol : s.heap.NoLimit := he.mod.nolimit.keeps fun b o z => (he.bs b o z).1
  have knd : ∀ y ∈ ps.zip us, sc.names.lookup y.1 = some .local ∨ (sc.names.lookup y.1 = some .cell ∧ ((cellsFrom (s.heap.objs.size + 1) sc.names []).lookup y.1).isSome = true) := by
    intro y hy
    rcases S.par y.1 (List.of_mem_zip (show (y.1, y.2) ∈ ps.zip us from hy)).1 with z | z
    · exact .inl z
    · exact .inr ⟨z, PySem.W.cellsFrom_some _ _ _ (.inl z)⟩
  refine codeAny_call_function hr.depth (kin _ _ lk) rfl S.co S.gen rfl (PySem.W.codeRec_of kin hco) (hb _ _ _ _ ?_)
  refine wpAny_newFunctionEnv_cells S.kind knd fun env eq s1 z => ?_
  subst eq
  refine ⟨nol.keeps z.toInCall.keep, codeAny_func ?_⟩
  obtain ⟨t, ht, hq⟩ := hbo cv A out s H vs Q E hG (hr.deeper _) hs
  have J : Inv (cxOf CX0 P w K mg base N q sc f cv A out s H E) [] (start N vs) H s1 := inv_start S hr.hd he vl rv z
  refine wpAny_mono (ht.run [] s1 (start N vs) H _ J hq) (fun fl s2 hz => ?_) fun _ _ hz => hz
  have fin : ∀ {τ : L2.St} {H' : Hp} {v : V} {u : Value}, Inv (cxOf CX0 P w K mg base N q sc f cv A out s H E) [] τ H' s2 → RelV v u → Q v H' → CE out P w H s Q u s2 := by
    intro τ H' v u I r z
    exact ⟨v, H', I.os, I.bare, I.base, I.hok, r, z⟩
  cases fl with
  | ret u => obtain ⟨v, τ, H', I, r, z⟩ := hz; exact fin I r z
  | next => obtain ⟨τ, H', I, z⟩ := hz; exact fin (v := V.non) (u := Value.none) I rfl z
  | brk => obtain ⟨_, _, _, z⟩ := hz; exact z.elim
  | cont => obtain ⟨_, _, _, z⟩ := hz; exact z.elim
end
section
variable {X : Cx} {k : Nat} {f : Addr} {fd : FuncData} {ps : List Str} {sp : Sp} {x : Str} {p pos : Pos} {e : Expr} {es : List Expr} {ta : TA}
/-- a call of such a def -/
theorem pe_callG (hG : X.A.guards = some []) (F : FnG X.prog X.w X.K X.mg X.base k f fd ps sp) (hr : Room k X.A) (hg : Gl X x) (hm : X.mg x = some (.ref f)) (hk : PySem.W.keepIn X.K (.ref f) = true) (hb : Binds X.K fd ps [])
    (ha : PA X (e :: es) ta) (hd : (x == ("__debug__" : Str)) = false := by decide) (he : starEach (e :: es) X.env = (false, eval e X.env) :: starEach es X.env := by rfl)
    (hp : (backTo pos (starEach es X.env)).any (·.1) = false := by rfl) : PE X (.Call (.Name x p) (e :: es) [] pos) (fun σ H Q => ta σ H fun vs H1 => sp vs H1 Q E0) := by
  refine ⟨fun pins s σ H Q I h => wpAny_Call_Name_kw (ld_glob I hg hm ?_ hd)⟩
  refine PySem.W.callWith_K (h₀ := X.base) I.ok.mod.kin hk (thn (ha.run pos pins s σ H _ I h) fun us s1 ⟨vs, H1, J, r, q⟩ => ⟨J.kIn, ?_⟩) he hp
  have hl : (us ++ []).length = ps.length := by rw [List.append_nil, ← r.length]; exact F.len _ _ _ _ q
  have hbt : BindsTo s1 fd ⟨us, []⟩ (ps.zip us) := by
    have z := hb s1 us J.kIn hl
    rw [List.append_nil] at z
    exact z
  refine wpAny_call (codeAny_mono (F.run X.A X.stack s1 H1 ⟨us, []⟩ us vs Q E0 hG hr J.env0 hbt r q) fun r' s2 hz => ?_)
  cases r' with
  | error er => exact False.elim hz
  | ok fl =>
    cases fl with
    | ret u => exact J.after hz
    | next => exact False.elim hz
    | brk => exact False.elim hz
    | cont => exact False.elim hz
end
/-! ### the law's own call -/
theorem lawG_call {P : Program} {w : World} {K : PySem.W.Frag} {mg mb : Str → Option Value} {k : Nat} {fa a : Addr} {fd : FuncData} {x : Str} {sp : Sp} {s₁ : Shared} {vs : List Value} {ns : List Int}
    (kin : K.In s₁.heap) (hns : s₁.heap.Ns mainGlobals mg) (hb : s₁.heap.Ns builtinsNs mb) (hbb : ∀ x : Str, x ≠ "__name__" → mb x = bootBuiltins x) (nol : s₁.heap.NoLimit) (hg : s₁.gens = #[])
    (ha : s₁.heap.get? a = some { cls := .type "list", data := .seq vs.toArray }) (hi : IntsAre vs ns) (hl : ns.length ≤ sizeLine) (hr : Room k callerA)
    (F : ∀ base : Heap, K.In base → base.Ns mainGlobals mg → FnG P w K mg base k fa fd [x] sp) (hbd : ∀ (s : Shared) (u : Value), BindsTo s fd ⟨[u], []⟩ [(x, u)])
    (hsp : ∀ H : Hp, Only H → SqL K H a (ns.map V.int) → sp [.ref a] H (fun v _ => v = .bl true) fun _ _ _ => False) :
    codeAny (model P w) callerA (.call (.ref fa) ⟨[.ref a], []⟩) (fun r s' => r = .ok (.ret (.bool true)) ∧ OldK s₁.heap s'.heap ∧ s'.os = s₁.os ∧ AllBare s'.gens) s₁ := by
  have rv := vals_ints hi
  have lv := hi.length
  have core : ∀ H : Hp, Only H → SqL K H a (ns.map V.int) → HOk P w H s₁.heap → (∀ b, H b ≠ none → b = a) → (H a ≠ none → K.lookup a = none) →
      codeAny (model P w) callerA (.call (.ref fa) ⟨[.ref a], []⟩) (fun r s' => r = .ok (.ret (.bool true)) ∧ OldK s₁.heap s'.heap ∧ s'.os = s₁.os ∧ AllBare s'.gens) s₁ := by
    intro H hO hS hok hA hK
    have one : ∀ {b : Addr} {u : HO}, H b = some u → b = a := fun {b u} z => hA b (by rw [z]; exact fun n => by cases n)
    have free : ∀ {b : Addr} {o : Obj} {es : Array DictEntry} {ep : Nat}, s₁.heap.get? b = some o → o.data = .dict es ep → H b = none := by
      intro b o es ep z d
      cases q : H b with
      | none => rfl
      | some u =>
        have e := one q
        subst e
        rw [ha] at z
        cases z
        have d2 : Data.seq vs.toArray _ = Data.dict es ep := d
        cases d2
    have nsB : ∀ {b : Addr} {m : Str → Option Value}, s₁.heap.Ns b m → (hidT s₁.heap H).Ns b m := fun {b m} ⟨o, es, ep, z, d, r⟩ => ⟨o, es, ep, hidT_get z (free z d), d, r⟩
    have kB : K.In (hidT s₁.heap H) := fun b o z => by
      refine hidT_get (kin b o z) ?_
      cases q : H b with
      | none => rfl
      | some u =>
        have e := one q
        subst e
        rw [hK (by rw [q]; exact fun n => by cases n)] at z
        cases z
    have mB : Mod K mg (hidT s₁.heap H) := ⟨kB, nsB hns, ⟨mb, nsB hb, hbb⟩, let ⟨mc, z1, z2⟩ := nol; ⟨mc, nsB z1, z2⟩⟩
    have e0 : Env0 P w K mg (hidT s₁.heap H) callerA [] s₁ H :=
      ⟨rfl, mB, fun b o z => of_hidT z, Nat.le_of_eq (hidT_size _ _), trivial, fun b z => absurd (show b ∈ ([] : List Addr) from z) (by simp), hok, .of_eq hg⟩
    refine codeAny_mono ((F _ kB (nsB hns)).run callerA [] s₁ H ⟨[.ref a], []⟩ [.ref a] [.ref a] _ _ rfl hr e0 (hbd s₁ (.ref a)) (.cons rfl .nil) (hsp H hO hS)) fun r s' z => ?_
    cases r with
    | error e => exact False.elim z
    | ok fl =>
      cases fl with
      | next => exact False.elim z
      | brk => exact False.elim z
      | cont => exact False.elim z
      | ret u =>
        obtain ⟨v, H', os, bare, un, hok', r', q⟩ := z
        have q2 : v = .bl true := q
        subst q2
        obtain rfl : u = Value.bool true := r'
        refine ⟨rfl, OldK.of_keep fun b o z => ?_, os, bare⟩
        cases q : H b with
        | none => exact un.keep b o z q (fun n => absurd (show b ∈ ([] : List Addr) from n) (by simp)) (by simp)
        | some u =>
          rcases hO b with n | ⟨ob, xs, n⟩
          · rw [q] at n; cases n
          · obtain ⟨e1, _⟩ := hok b _ n
            obtain ⟨e2, _⟩ := hok' b _ (un.frzs b ob _ n)
            rw [z] at e1
            cases e1
            exact e2
  cases hk : K.lookup a with
  | some o =>
    have z := kin a o hk
    rw [ha] at z
    cases z
    exact core (fun _ => none) (fun _ => .inl rfl) (.inr ⟨_, vs.toArray, _, hk, rfl, rfl, rfl, by rw [List.size_toArray, lv]; exact hl, by simpa using rv⟩) (fun b u n => by have m : (none : Option HO) = some u := n; cases m)
      (fun b n => absurd rfl n) fun n => absurd rfl n
  | none =>
    refine core (fun b => if b = a then some (.frz { cls := .type "list", data := .seq vs.toArray } (.lst (ns.map V.int))) else none) (fun b => ?_) (.inl (.inr ⟨{ cls := .type "list", data := .seq vs.toArray }, if_pos rfl⟩)) (fun b u n => ?_) (fun b n => ?_) fun _ => hk
    · by_cases e : b = a
      · exact .inr ⟨_, _, if_pos e⟩
      · exact .inl (if_neg e)
    · by_cases e : b = a
      · have m := (if_pos e).symm.trans n
        cases m
        subst e
        exact ⟨ha, by rw [List.length_map]; exact hl, vs, _, rv, ha⟩
      · have m := (if_neg e).symm.trans n
        cases m
    · by_cases e : b = a
      · exact e
      · exact absurd (if_neg e) n
theorem walkG {l : PySem.W.OpenLaw} {n k : Nat} {q : Program} {loose : List Str} {XP : (Str → Option Value) → Heap → Prop} {YP : World → Heap → Prop} {d : DefRec} {x : Str}
    (hn : l.most = some n) (hz : n ≤ sizeLine) (hd : d.params.defaults = []) (hr : Room k callerA)
    (F : ∀ (w : World) (mg : Str → Option Value) (fa : Addr) (h : Heap), YP w h → h.Ns mainGlobals mg → mg d.name = some (.ref fa) → ∃ (K : PySem.W.Frag) (fd : FuncData) (sp : Sp), K.In h ∧ (∀ (s : Shared) (u : Value), BindsTo s fd ⟨[u], []⟩ [(x, u)]) ∧
      (∀ (H : Hp) (a : Addr) (ns : List Int), ns.length ≤ n → Only H → SqL K H a (ns.map V.int) → sp [.ref a] H (fun v _ => v = .bl true) fun _ _ _ => False) ∧ ∀ base : Heap, K.In base → base.Ns mainGlobals mg → FnG l.prog w K mg base k fa fd [x] sp) :
    PySem.W.WalkO q loose XP YP l.row.toRowW d [] (fun f vs => PySem.call f vs) := by
  refine Att.attach_call hn hd fun w s₀ s₁ mg mb fa o pm cd doc a vs ns G Y _ _ _ hm hob hin hle hge => ?_
  obtain ⟨K, fd, sp, kin, hb, hs, hF⟩ := F w mg fa _ Y G.T.g hm
  exact lawG_call kin G.T.g G.T.b G.T.builtins G.T.nolimit hge hob hin (Nat.le_trans hle hz) hr hF hb fun H hO hS => hs H a ns hle hO hS
end Sw
namespace Sw
open PySem PySem.Spec PyProof.Rows L2
/-! ### repr -/
mutual
theorem nodict {K : PySem.W.Frag} {H : Hp} : ∀ (d : PyData) (v : V), Dp K H v d → d.hasDict = false
  | .none, _, _ => by simp only [PyData.hasDict]
  | .bool _, _, _ => by simp only [PyData.hasDict]
  | .int _, _, _ => by simp only [PyData.hasDict]
  | .str _, _, _ => by simp only [PyData.hasDict]
  | .list ds, _, h => by
    cases h with
    | lst _ ha => simpa only [PyData.hasDict] using nodictAll ds _ ha
  | .tuple ds, _, h => by
    cases h with
    | tup _ ha => simpa only [PyData.hasDict] using nodictAll ds _ ha
  | .dict _, _, h => by cases h
theorem nodictAll {K : PySem.W.Frag} {H : Hp} : ∀ (ds : List PyData) (vs : List V), DpAll K H vs ds → PyData.hasDictAll ds = false
  | [], _, _ => by simp only [PyData.hasDictAll]
  | d :: ds, _, h => by
    cases h with
    | cons h1 h2 =>
      simp only [PyData.hasDictAll, nodict d _ h1, nodictAll ds _ h2, Bool.or_self]
end
section
variable {X : Cx}
theorem call_reprD (hG : X.A.guards = some []) (hu : X.A.units + 64 < cLine) : CallR X (.builtin "repr") (fun xs H Q => ∃ x d, xs = [x] ∧ Dp X.K H x d ∧ d.showable = true ∧ d.depth ≤ 60 ∧ d.shown.length ≤ sizeLine ∧ Q (.str d.shown) H) := by
  intro pins s σ H xs us Q I r h
  obtain ⟨x, d, rfl, hd, hs, hdp, hz, q⟩ := h
  cases r with
  | cons r1 rt =>
    cases rt
    have nd := nodict d x hd
    cases d with
    | none => cases hd; cases r1; exact P.repr_of_none ⟨.str _, H, I.tok _, ⟨_, rfl⟩, q⟩
    | bool b => cases hd; cases r1; exact P.repr_of_bool ⟨.str _, H, I.tok _, ⟨_, rfl⟩, q⟩
    | int i =>
      cases hd
      obtain ⟨t, rfl⟩ := r1
      exact P.repr_of_int (by simpa [PyData.showable] using hs) ⟨.str _, H, I.tok _, ⟨_, rfl⟩, q⟩
    | str z =>
      cases hd
      obtain ⟨t, rfl⟩ := r1
      exact P.repr_of_str ⟨.str _, H, I.tok _, ⟨_, rfl⟩, q⟩ hz
    | dict _ => cases hd
    | list ds =>
      have hd0 := hd
      cases hd0 with
      | lst h1 h2 =>
        obtain ⟨as, rd⟩ := Dp.reads I _ _ _ hd r1
        cases r1
        exact repr_of_reads' rd hs (fun z => by rw [nd] at z; cases z) hG (by omega) (fun _ _ z => z) (fun h' u tk k => ⟨.str _, H, I.kept (t' := tk) k, ⟨_, rfl⟩, q⟩) hz
    | tuple ds =>
      have hd0 := hd
      cases hd0 with
      | tup h1 h2 =>
        obtain ⟨as, rd⟩ := Dp.reads I _ _ _ hd r1
        cases r1
        exact repr_of_reads' rd hs (fun z => by rw [nd] at z; cases z) hG (by omega) (fun _ _ z => z) (fun h' u tk k => ⟨.str _, H, I.kept (t' := tk) k, ⟨_, rfl⟩, q⟩) hz
/-- repr({}) -/
theorem call_repr0 (hG : X.A.guards = some []) (hu : X.A.units + 64 < cLine) : CallR X (.builtin "repr") (fun xs H Q => ∃ a, xs = [.ref a] ∧ H a = some (.dK []) ∧ Q (.str (PyData.shown (.dict []))) H) := by
  intro pins s σ H xs us Q I r h
  obtain ⟨a, rfl, ha, q⟩ := h
  cases r with
  | cons r1 rt =>
    cases rt
    cases r1
    obtain ⟨_, hsm, vs, kv, o, es, ep, ho, hex, hd, _, he, _⟩ := I.hok a _ ha
    cases kv
    have he' : es.toList = [] := by
      generalize es.toList = l at he ⊢
      cases he
      rfl
    have rd : Reads s.heap (.ref a) (.dict []) (a :: [] ++ []) := by
      refine Reads.dict (kvs := []) ho hex.1 hd ?_ ?_
      · rw [he']; exact .nil
      · rw [he']; exact .nil
    refine repr_of_reads' rd (by decide) (fun _ hm => ?_) hG (by have z : PyData.depth (.dict []) = 1 := (by decide); rw [z]; omega) (fun _ _ z => z) (fun h' u tk k => ⟨.str _, H, I.kept (t' := tk) k, ⟨_, rfl⟩, q⟩) (by decide)
    have : sysModules = a := by simpa using hm
    rw [this] at hsm
    simp at hsm
end
/-! ### the least, the greatest of texts -/
section
variable {X : Cx}
theorem holds_vals {P : Program} {w : World} {h : Heap} : ∀ {xs : List Str} {us : List Value}, Vals (xs.map V.str) us → PySem.W.HoldAll h us xs
  | [], _, .nil => PySem.W.HoldAll.nil
  | x :: xs, _, .cons r t => by
    obtain ⟨k, rfl⟩ := r
    exact PySem.W.HoldAll.cons (PySem.W.holds_str x k) (holds_vals (P := P) (w := w) t)
theorem cr_minS (hc : X.calm = true) (hu : X.A.units + 64 < cLine) : CallR X (.builtin "min") (fun vs H Q => ∃ (a : Addr) (x : Str) (xs : List Str), vs = [.ref a] ∧ SqT X.K H a ((x :: xs).map V.str) ∧ Q (.str (PySem.W.minOf x xs)) H) := by
  intro pins s σ H vs us Q I r h
  obtain ⟨a, x, xs, rfl, hx, q⟩ := h
  cases r with
  | cons r1 rt =>
    cases rt
    cases r1
    obtain ⟨its, rv, ⟨o, ho, hcl, n, hd⟩, _⟩ := I.tuple hx
    have hd0 : PySem.W.Datum.depth Str = 0 := rfl
    refine PySem.W.min_tuple_datum (vs := its.toArray) (I.ok.hd hc) ⟨o, ho, hcl, n, hd⟩ (holds_vals (P := X.prog) (w := X.w) (by simpa using rv)) (by rw [hd0]; omega) fun i v h' tk hi hh k => ?_
    obtain ⟨t, rfl⟩ := PySem.W.str_of_holds hh
    exact ⟨.str _, H, I.kept (t' := tk) k, ⟨_, rfl⟩, q⟩
theorem cr_maxS (hc : X.calm = true) (hu : X.A.units + 64 < cLine) : CallR X (.builtin "max") (fun vs H Q => ∃ (a : Addr) (x : Str) (xs : List Str), vs = [.ref a] ∧ SqT X.K H a ((x :: xs).map V.str) ∧ Q (.str (PySem.W.maxOf x xs)) H) := by
  intro pins s σ H vs us Q I r h
  obtain ⟨a, x, xs, rfl, hx, q⟩ := h
  cases r with
  | cons r1 rt =>
    cases rt
    cases r1
    obtain ⟨its, rv, ⟨o, ho, hcl, n, hd⟩, _⟩ := I.tuple hx
    have hd0 : PySem.W.Datum.depth Str = 0 := rfl
    refine PySem.W.max_tuple_datum (vs := its.toArray) (I.ok.hd hc) ⟨o, ho, hcl, n, hd⟩ (holds_vals (P := X.prog) (w := X.w) (by simpa using rv)) (by rw [hd0]; omega) fun i v h' tk hi hh k => ?_
    obtain ⟨t, rfl⟩ := PySem.W.str_of_holds hh
    exact ⟨.str _, H, I.kept (t' := tk) k, ⟨_, rfl⟩, q⟩
end
/-! ### list(text), text * int -/
section
variable {X : Cx}
theorem signs_vals : ∀ (l : List Nat) (us : List Value), us.length = l.length → (∀ (i : Nat) (c : Nat), l[i]? = some c → ∃ t, us[i]? = some (Value.str ⟨#[c]⟩ t)) → Vals (l.map fun c => V.str ⟨#[c]⟩) us
  | [], [], _, _ => .nil
  | [], _ :: _, h, _ => by simp at h
  | _ :: _, [], h, _ => by simp at h
  | c :: l, u :: us, h, e => by
    obtain ⟨t, et⟩ := e 0 c rfl
    have : u = Value.str ⟨#[c]⟩ t := by simpa using et
    exact .cons ⟨t, this⟩ (signs_vals l us (by simpa using h) fun i c' hc => by simpa using e (i + 1) c' (by simpa using hc))
theorem call_listS (hc : X.calm = true) : CallR X (.type "list") (fun xs H Q => ∃ z : Str, xs = [.str z] ∧ z.cps.size ≤ sizeLine ∧ ∀ p, H p = none → Q (.ref p) (upd H p (.lst (z.cps.toList.map fun c => V.str ⟨#[c]⟩)))) := by
  intro pins s σ H xs us Q I r h
  obtain ⟨z, rfl, hz, q⟩ := h
  cases r with
  | cons r1 rt =>
    cases rt
    obtain ⟨t, rfl⟩ := r1
    refine call_list_str (I.ok.hd hc) z t (fun h' tk acc c k ho hi => ?_) hz
    obtain ⟨hi1, hi2⟩ := hi
    refine ⟨.ref s.heap.objs.size, _, I.laid (t' := tk) (o := .lst (z.cps.toList.map fun c => V.str ⟨#[c]⟩)) k (Nat.le_refl _) ⟨by rw [List.length_map, Array.length_toList]; exact hz, acc.toList, c, ?_, by simpa using ho⟩, rfl, q _ (I.hok.fresh (Nat.le_refl _))⟩
    refine signs_vals _ _ (by rw [Array.length_toList, Array.length_toList]; exact hi1) fun i c' hc' => ?_
    have hlt : i < acc.size := by
      rw [hi1]
      rw [Array.getElem?_toList] at hc'
      exact (Array.getElem?_eq_some_iff.mp hc').1
    obtain ⟨c2, u, e1, e2⟩ := hi2 i acc[i] (Array.getElem?_eq_some_iff.mpr ⟨hlt, rfl⟩)
    rw [Array.getElem?_toList] at hc'
    rw [e1] at hc'
    have ec : c2 = c' := Option.some.inj hc'
    subst ec
    exact ⟨u, by rw [Array.getElem?_toList, Array.getElem?_eq_some_iff.mpr ⟨hlt, rfl⟩, e2]⟩
end
end Sw
namespace Sw
open PySem PySem.Spec PyProof.Rows L2
/-! ### text * int -/
theorem foldl_cat (a : Array Nat) : ∀ (k : Nat) (b : Array Nat), ((List.replicate k a).foldl (· ++ ·) b).size = b.size + k * a.size
  | 0, b => by simp
  | k + 1, b => by
    rw [List.replicate_succ, List.foldl_cons, foldl_cat a k (b ++ a), Array.size_append, Nat.succ_mul]
    omega
section
variable {X : Cx}
theorem op_mulS : OpR X (binaryOp .Mult) (fun x y H Q => ∃ (z : Str) (k : Int), x = .str z ∧ y = .int k ∧ 2 ≤ k ∧ k ≤ 1000 ∧ 1 ≤ z.length ∧ z.length ≤ 1000 ∧ ∀ u : Str, u.length = k.toNat * z.length → Q (.str u) H) := by
  intro pins s σ H x y v u Q I rx ry h
  obtain ⟨z, k, rfl, rfl, h1, h2, h3, h4, q⟩ := h
  obtain ⟨t, rfl⟩ := rx
  obtain ⟨t', rfl⟩ := ry
  have hk : z.length * k.toNat ≤ 1000000 := by
    have : k.toNat ≤ 1000 := by omega
    calc z.length * k.toNat ≤ 1000 * 1000 := Nat.mul_le_mul h4 this
      _ = 1000000 := rfl
  have e0 : (k == 1 || z.length == 0) = false := by
    rw [Bool.or_eq_false_iff]
    exact ⟨beq_eq_false_iff_ne.mpr (by omega), beq_eq_false_iff_ne.mpr (by omega)⟩
  refine P.mul_str ?_ (fun _ _ => ?_) (fun _ _ => ?_) ?_
  · have a1 : ¬ k < -(2 ^ 63 : Int) := by omega
    have a2 : ¬ k ≥ 2 ^ 63 := by omega
    rw [decide_eq_false a1, decide_eq_false a2]; rfl
  · have b1 : (1000 : Int) ≤ (2 ^ 63 - 1) / k := by
      rw [Int.le_ediv_iff_mul_le (by omega)]
      have : 1000 * k ≤ 1000000 := by omega
      omega
    omega
  · have : (sizeLine : Nat) ≥ 1000000 := by decide
    unfold Builtin.Str.tooLong
    simp only [decide_eq_false_iff_not]
    omega
  · rw [if_neg (show ¬ k < 1 by omega), e0]
    simp only [Bool.false_eq_true, if_false]
    have hlen : (⟨(List.replicate k.toNat z.cps).foldl (· ++ ·) #[]⟩ : Str).length = k.toNat * z.length := by
      show ((List.replicate k.toNat z.cps).foldl (· ++ ·) #[]).size = _
      rw [foldl_cat]
      show 0 + k.toNat * z.cps.size = k.toNat * z.cps.size
      omega
    refine ⟨?_, .str _, H, I.tok _, ⟨_, rfl⟩, q _ hlen⟩
    rw [hlen, Nat.mul_comm]
    have : (sizeLine : Nat) ≥ 1000000 := by decide
    omega
end
/-! ### set of a list of texts -/
/-- each once, as they are met -/
def once (xs : List Str) : List Str := xs.foldl (fun a x => if a.any (· == x) then a else a ++ [x]) []
theorem once_snoc (xs : List Str) (x : Str) : once (xs ++ [x]) = if (once xs).any (· == x) then once xs else once xs ++ [x] := by
  unfold once; rw [List.foldl_append]; rfl
theorem once_le : ∀ (n : Nat) (xs : List Str), xs.length = n → (once xs).length ≤ n
  | 0, xs, h => by rw [List.eq_nil_of_length_eq_zero h]; exact Nat.le_refl _
  | n + 1, xs, h => by
    obtain ⟨ys, y, rfl⟩ : ∃ ys y, xs = ys ++ [y] := ⟨xs.dropLast, xs.getLast (by intro e; rw [e] at h; cases h), (List.dropLast_concat_getLast _).symm⟩
    rw [List.length_append, List.length_singleton] at h
    have ih := once_le n ys (by omega)
    rw [once_snoc]
    split
    · omega
    · rw [List.length_append, List.length_singleton]; omega
section
variable {prog : Program} {w : World} {A : Around} {R : Result → Shared → Prop} {J : Addr} {fp wr : List Addr} {G : Array GenState → Array GenState → Prop} {n : Nat} {P : Nat → Value → Prop} {St : Nat → Shared → Prop}
theorem take_snoc {xs : List Str} {i : Nat} (h : i < xs.length) : xs.take (i + 1) = xs.take i ++ [xs.getD i Str.empty] := by
  rw [List.take_succ, List.getD_eq_getElem?_getD, List.getElem?_eq_getElem h]; rfl
theorem setLoop (W : WalksS prog w A.in1 J fp wr G n P St) (S : Addr) (hS0 : S ∉ fp) (xs : List Str) (hxn : xs.length = n) (hn : n + 1 < scanBound) (hv : ∀ i v, P i v → ∃ t, v = .str (xs.getD i Str.empty) t) :
    ∀ (k i : Nat) (s : Shared), n - i = k → i ≤ n → St i s → s.heap.SetOf (strKind prog w) S (fun y => (once (xs.take i)).any (· == y)) (once (xs.take i)).length →
      (∀ s', Moved (S :: wr) G s s' → s'.heap.SetOf (strKind prog w) S (fun y => (once xs).any (· == y)) (once xs).length → R (.ok (.ret .none)) s') →
      codeAny (model prog w) A (.builtin "set.update.loop" ⟨[.ref S, .ref J], []⟩) R s := by
  have notW : S ∉ wr := fun z => hS0 (W.sub _ z)
  have more : ∀ b ∈ wr, b ∈ S :: wr := fun b z => List.mem_cons_of_mem _ z
  intro k
  induction k with
  | zero =>
    intro i s hk hi hst hS hR
    obtain rfl : i = n := by omega
    refine codeAny_builtin (b := Builtin.«set.update.loop») PyProof.Rows.F.entry_set_update_loop ?_
    rw [show A.under (.builtin "set.update.loop" ⟨[.ref S, .ref J], []⟩) = A.in1 from Around.under_plainId PyProof.Rows.F.plain_set_update_loop _]
    show wpAny (model prog w) A.in1 (pyNext (.ref J) >>= _) _ _ s
    refine wpAny_bind (W.done s _ _ hst fun s2 m => ?_)
    show wpAny (model prog w) A.in1 (ret Value.none) _ _ s2
    refine wpAny_pure (hR s2 (m.mono more) ?_)
    rw [List.take_of_length_le (by omega)] at hS
    obtain ⟨o, es, ep, t, ho, q⟩ := hS
    exact ⟨o, es, ep, t, m.heap S _ notW ho, q⟩
  | succ k ih =>
    intro i s hk hi hst hS hR
    have lt : i < n := by omega
    refine codeAny_builtin (b := Builtin.«set.update.loop») PyProof.Rows.F.entry_set_update_loop ?_
    rw [show A.under (.builtin "set.update.loop" ⟨[.ref S, .ref J], []⟩) = A.in1 from Around.under_plainId PyProof.Rows.F.plain_set_update_loop _]
    show wpAny (model prog w) A.in1 (pyNext (.ref J) >>= _) _ _ s
    refine wpAny_bind (W.item i s _ _ lt hst fun v s2 hP hst2 m => ?_)
    obtain ⟨t, rfl⟩ := hv i v hP
    have hS2 : s2.heap.SetOf (strKind prog w) S (fun y => (once (xs.take i)).any (· == y)) (once (xs.take i)).length := by
      obtain ⟨o, es, ep, tb, ho, q⟩ := hS
      exact ⟨o, es, ep, tb, m.heap S _ notW ho, q⟩
    show wpAny (model prog w) A.in1 (holding [Value.str (xs.getD i Str.empty) t] (setAdd S (.str (xs.getD i Str.empty) t)) >>= _) _ _ s2
    refine wpAny_bind (wpAny_holding ?_)
    unfold setAdd
    refine wpAny_holding (wpAny_bind ((strKind prog w).pyHash (k := xs.getD i Str.empty) (strKind_is _ _ _ _) ?_))
    have room : (once (xs.take i)).length + 1 < scanBound := by
      have := once_le i (xs.take i) (by rw [List.length_take]; omega)
      omega
    refine wpAny_setAddHashed_of (knd := strKind prog w) (s := { s2 with toks := s2.toks + 1 }) (strKind_is _ _ _ _) rfl hS2 room fun h' sb hN => ?_
    have hNi : h'.SetOf (strKind prog w) S (fun y => (once (xs.take (i + 1))).any (· == y)) (once (xs.take (i + 1))).length := by
      refine SetOf_congr hN (fun y => ?_) ?_
      · rw [take_snoc (by omega), once_snoc]
        by_cases e : (once (xs.take i)).any (· == xs.getD i Str.empty) = true
        · rw [if_pos e]
          by_cases ey : y = xs.getD i Str.empty
          · subst ey; rw [e]; simp
          · rw [decide_eq_false ey, Bool.or_false]
        · rw [if_neg e, List.any_append]
          by_cases ey : y = xs.getD i Str.empty
          · subst ey; simp
          · have ne : (xs.getD i Str.empty == y) = false := by simpa [beq_iff_eq] using fun z : xs.getD i Str.empty = y => ey z.symm
            simp only [List.any_cons, List.any_nil, ne, Bool.or_false, decide_eq_false ey]
      · rw [take_snoc (by omega), once_snoc]
        split
        · rfl
        · rw [List.length_append]; rfl
    refine wpAny_pure ⟨plainId_quiet PyProof.Rows.F.plain_set_update_loop _, ih (i + 1) _ (by omega) lt (W.frame _ s2 _ _ hst2 (Nat.le_succ _) fun b hb o z => ?_) hNi fun s3 m3 hS3 => ?_⟩
    · rw [sb.2 b (fun z2 : b = S => hS0 (by rw [← z2]; exact hb))]; exact z
    · refine hR s3 (Moved.trans W.gtrans ((m.mono more).then_heap (Nat.le_succ _) fun b o hb z => ?_) m3) hS3
      rw [sb.2 b (fun z2 : b = S => hb (by rw [z2]; exact List.mem_cons_self))]; exact z
end
/-- a set as it is made -/
abbrev bare (led : Bool) : Obj := { cls := .type "set", dict := none, data := .set #[] 0 (.fresh 0 0 led) }
section
variable {w : World} {A : Around} {s : Shared} {prog : Program} {E : Value → Shared → Prop}
theorem set_of_texts {l : Addr} {items : Array Value} {xs : List Str} {Q : Value → Shared → Prop}
    (hh : A.handled = none) (hl : s.heap.IsList l items) (hi : StrsAre items.toList xs) (hn : items.size + 1 < scanBound)
    (h : ∀ (h' : Heap) (tk : Nat), h'.SetOf (strKind prog w) s.heap.objs.size (fun y => (once xs).any (· == y)) (once xs).length →
      (∀ b o, b < s.heap.objs.size → s.heap.get? b = some o → h'.get? b = some o) → Q (.ref s.heap.objs.size) { s with heap := h', toks := tk }) :
    wpAny (model prog w) A (call (.type "set") [.ref l]) Q E s := by
  have hxs : xs.length = items.size := by rw [← hi.length, Array.length_toList]
  obtain ⟨c, tl, mr⟩ := PySem.F.called_set.mro
  have mk0 := PySem.F.called_set.made
  have sb0 := PySem.F.called_set.sub
  refine wpAny_call (codeAny_of_tree (show wpAny _ _ (callAny (.type "set") _) _ _ _ from ?_))
  refine wpAny_pure ⟨Code.quiet_builtin _ (by decide +kernel), codeAny_builtin PySem.F.entry_type_call ?_⟩
  rw [Around.under_plain (weight_type_call_type "set" [.ref l] []) rfl]
  have h1 := PySem.F.called_set.notType
  have h2 := PySem.F.called_set.canCreate
  have tc0 := PySem.F.typeCall_set_1 (.ref l)
  repeat (any_goals (first | assumption | wp_step))
  refine codeAny_mono (code_set_new_1 (.ref l) (E := E) (Q₁ := fun ob s₁ => ∃ led : Bool, ob = .ref s.heap.objs.size ∧ s₁ = { s with heap := s.heap.push (bare led) }) fun led => ⟨led, rfl, rfl⟩) fun r s₁ hr => ?_
  cases r with
  | error e => exact hr
  | ok fl =>
    cases fl with
    | ret ob =>
      obtain ⟨led, rfl, rfl⟩ := hr
      have zS : (s.heap.push (bare led)).get? s.heap.objs.size = some (bare led) := Heap.get?_push_size _ rfl
      have zT : Shared.TypeIs { s with heap := s.heap.push (bare led) } (.ref s.heap.objs.size) "set" := ⟨_, zS, rfl⟩
      have ini := PySem.F.called_set.init.lookup
      have bnd := PySem.F.called_set.init.bind (.ref s.heap.objs.size)
      repeat (any_goals (first | assumption | wp_step))
      refine codeAny_mono (codeAny_call_builtin (R := wants (fun r t2 => r = .none ∧ ∃ h' tk, t2 = { s with heap := h', toks := tk } ∧ h'.SetOf (strKind prog w) s.heap.objs.size (fun y => (once xs).any (· == y)) (once xs).length ∧
          (∀ b o, b < s.heap.objs.size → s.heap.get? b = some o → h'.get? b = some o)) E) PySem.F.called_set.init.plain PySem.F.entry_set_init (check_set_init_1 zT ?_)) fun r2 t2 z₂ => ?_
      · obtain ⟨obL, atL, clL, nL, dtL⟩ := hl
        obtain ⟨k1, k2, k3, k4⟩ := obL
        simp only at clL dtL
        subst clL; subst dtL
        have atL2 : (s.heap.push (bare led)).get? l = some { cls := .type "list", dict := k2, data := .seq items nL, slots := k4 } := Heap.get?_push_of_some _ atL
        have sub1 := PySem.F.sub_list_set
        have sub2 := PySem.F.sub_list_frozenset
        have dne : (Value.type "list" == Value.type "dict") = false := by decide
        have lst1 : (s.heap.push (bare led)).IsList l items := ⟨_, atL2, rfl, nL, rfl⟩
        unfold Builtin.«set.__init__» noKeywords Builtin.Frozenset.updateFrom
        generalize hide : pyIter = IT
        wp_walk
        subst hide
        refine wpAny_pyIter_list lst1 ?_
        refine wpAny_bind (wpAny_runValue ?_)
        have ltS : l < s.heap.objs.size := Heap.lt_size atL
        have calm3 : A.in1.in1.in1.handled = none := by simp [hh]
        have apart : l ≠ (s.heap.push (bare led)).objs.size := by
          rw [Heap.size_push]; exact Nat.ne_of_lt (Nat.lt_succ_of_lt ltS)
        have nofp : s.heap.objs.size ∉ [(s.heap.push (bare led)).objs.size, l] := by
          rw [Heap.size_push]; simp only [List.mem_cons, List.mem_singleton, List.not_mem_nil, or_false, not_or]
          exact ⟨Nat.ne_of_lt (Nat.lt_succ_self _), Nat.ne_of_gt ltS⟩
        have told : ∀ (i : Nat) (v : Value), items[i]? = some v → ∃ t, v = .str (xs.getD i Str.empty) t := fun i v hv => SS.strs_at hi i v (by rw [Array.getElem?_toList]; exact hv)
        refine setLoop ((Walks.list calm3 _ l apart items).toS) s.heap.objs.size nofp xs hxs hn told (items.size - 0) 0 _ (by omega) (Nat.zero_le _)
          ⟨⟨_, Heap.get?_push_size _ rfl, rfl, rfl⟩, (lst1.push _)⟩ ?c1 ?c2
        case c1 =>
          have atS : ((s.heap.push (bare led)).push { cls := .type "list_iterator", data := .fields #[.ref l, .int 0 0] }).get? s.heap.objs.size
              = some (bare led) := Heap.get?_push_of_some _ zS
          exact SetOf_congr ((setObjOf_fresh (knd := strKind prog w) led).setOf atS (by unfold scanBound; omega)) (fun _ => rfl) rfl
        case c2 =>
          intro s' mv zS2
          obtain ⟨h', g', d', tk', os'⟩ := s'
          have qg : g' = s.gens := mv.gens
          have qd : d' = s.drawn := mv.drawn
          have qo : os' = s.os := mv.os
          subst qg; subst qd; subst qo
          show wpAny _ _ _ _ _ _
          refine wpAny_pure ?_
          show wpAny _ _ (ret Value.none) _ _ _
          refine wpAny_pure ⟨rfl, h', tk', rfl, zS2, fun b o hb e => ?_⟩
          have ne1 : b ≠ s.heap.objs.size := Nat.ne_of_lt hb
          have ne2 : b ≠ (s.heap.push (bare led)).objs.size := by
            rw [Heap.size_push]; exact Nat.ne_of_lt (Nat.lt_succ_of_lt hb)
          exact mv.heap b o (by simp only [List.mem_cons, List.mem_singleton, List.not_mem_nil, or_false, not_or]; exact ⟨ne1, ne2⟩) (Heap.get?_push_of_some _ (Heap.get?_push_of_some _ e))
      · cases r2 with
        | error e => exact z₂
        | ok fl₂ =>
          cases fl₂ with
          | ret r =>
            obtain ⟨rfl, h', tk, rfl, zS2, kk⟩ := z₂
            repeat (any_goals (first | assumption | wp_step))
            exact h _ _ zS2 kk
          | _ => exact z₂.elim
    | _ => exact hr.elim
end
end Sw
namespace Sw
open PySem PySem.Spec PyProof.Rows L2
/-! ### set(list of texts), len of it -/
/-- a set of n texts stands at a -/
def TxO (P : Program) (w : World) (a : Addr) (n : Nat) : HO := .ext fun h => ∃ S, h.SetOf (strKind P w) a S n
section
variable {X : Cx}
theorem strs_vals : ∀ {xs : List Str} {us : List Value}, Vals (xs.map V.str) us → StrsAre us xs
  | [], _, .nil => .nil
  | x :: xs, _, .cons r t => by
    obtain ⟨k, rfl⟩ := r
    exact .cons x k (strs_vals t)
theorem call_setTx (hc : X.calm = true) : CallR X (.type "set") (fun vs H Q => ∃ (a : Addr) (xs : List Str), vs = [.ref a] ∧ SqL X.K H a (xs.map V.str) ∧ xs.length ≤ 1000 ∧ ∀ p, H p = none → Q (.ref p) (upd H p (TxO X.prog X.w p (once xs).length))) := by
  intro pins s σ H vs us Q I r h
  obtain ⟨a, xs, rfl, hx, hz, q⟩ := h
  cases r with
  | cons r1 rt =>
    cases rt
    cases r1
    obtain ⟨its, rv, hl, _⟩ := I.list hx
    have hlen := rv.length
    rw [List.length_map] at hlen
    refine set_of_texts (I.ok.hd hc) hl.isList (by simpa using strs_vals rv) (by rw [List.size_toArray, ← hlen]; unfold scanBound; omega) fun h' tk hS k => ?_
    obtain ⟨o, es, ep, t, ho, rest⟩ := id hS
    refine ⟨.ref s.heap.objs.size, _, I.laid (t' := tk) (o := TxO X.prog X.w s.heap.objs.size (once xs).length) (fun b ob e => k b ob (Heap.lt_size e) e) (Nat.le_refl _) ?_, rfl, q _ (I.hok.fresh (Nat.le_refl _))⟩
    exact ⟨⟨_, hS⟩, ⟨o, ho⟩, fun h1 h2 ⟨S, o1, e1, e2, t1, z, z2⟩ kk => ⟨S, o1, e1, e2, t1, kk _ z, z2⟩⟩
theorem call_lenTx : CallR X (.builtin "len") (fun vs H Q => ∃ (a : Addr) (n : Nat), vs = [.ref a] ∧ H a = some (TxO X.prog X.w a n) ∧ Q (.int n) H) := by
  intro pins s σ H vs us Q I r h
  obtain ⟨a, n, rfl, ha, q⟩ := h
  cases r with
  | cons r1 rt =>
    cases rt
    cases r1
    obtain ⟨⟨S, o, es, ep, t, ho, hex, hd, _, _, hb, hf, hn⟩, _⟩ := I.hok a _ ha
    exact call_len_set ho hex hd hf (by unfold scanBound at hb; omega) ⟨.int n, H, I.tok _, ⟨_, by rw [hn]⟩, q⟩
end
/-! ### (a, b)[::-1] -/
section
variable {prog : Program} {w : World} {A : Around} {E : Value → Shared → Prop} {s : Shared}
theorem applied_back {sl : Addr} {vk : Value} {Q : Int × Int × Nat → Shared → Prop} (hs : s.heap.IsSliceOf sl .none .none vk) (hk : IsPart vk (some (-1)))
    (h : Q (1, -1, 2) s) : wpAny (model prog w) A (Builtin.Slice.sliceApplied (.ref sl) (pure (2 : Int))) Q E s := by
  obtain ⟨os, hos, hcs, hds⟩ := id hs
  unfold Builtin.Slice.sliceApplied Builtin.Slice.sliceFields
  refine wpAny_bind (wpAny_bind (wpAny_field hos hds (x := .none) rfl (wpAny_bind (wpAny_field hos hds (x := .none) rfl (wpAny_bind (wpAny_field hos hds (x := vk) rfl (wpAny_pure ?_)))))))
  refine wpAny_bind (HT.slicePart_ hk ?_)
  show wpAny (model prog w) _ (if ((-1 : Int) == 0) = true then _ else _) _ _ s
  rw [if_neg (show ¬ ((-1 : Int) == 0) = true by decide)]
  refine wpAny_bind (HT.slicePart_ .none (wpAny_bind (HT.slicePart_ .none (wpAny_bind (wpAny_pure ?_)))))
  exact wpAny_pure h
theorem tuple_back {t sl : Addr} {u v : Value} {vk : Value} {Q : Value → Shared → Prop} (ht : IsTup s.heap t #[u, v]) (hs : s.heap.IsSliceOf sl .none .none vk) (hk : IsPart vk (some (-1)))
    (h : Q (.ref s.heap.objs.size) { s with heap := s.heap.push { cls := .type "tuple", data := .seq #[v, u] } }) : wpAny (model prog w) A (getItem (.ref t) (.ref sl)) Q E s := by
  obtain ⟨os, hos, hcs, hds⟩ := id hs
  have hTs : s.TypeIs (.ref sl) "slice" := ⟨os, hos, hcs⟩
  unfold getItem
  try with_reducible refine wpAny_holding ?_
  first | refine wpAny_bind (wpAny_pure ?_) | skip
  refine wpAny_bind (wpAny_sequenceKey ht.typeIs (by decide) ?_)
  refine wpAny_bind (wpAny_callSpecial?_slot (name := Str.ofString "__getitem__") ht.typeIs PyProof.Rows.slot_tuple_getitem
    (wpAny_call_entry PyProof.Rows.slot_tuple_getitem ht.typeIs entry_tuple_getitem ?_ (args_tuple_getitem _ _)))
  show wpAny (model prog w) _ (Builtin.Tuple.tupleItemsOf (.ref t) >>= _) _ _ s
  refine wpAny_bind (tupleItemsOf_ ht ?_)
  refine wpAny_bind (wpAny_typeOf hTs ?_)
  rw [if_pos (show (Value.type "slice" == Value.type "slice") = true from by decide)]
  refine wpAny_bind (applied_back hs hk ?_)
  show wpAny (model prog w) _ (if ((1 : Int) == 0 && (-1 : Int) == 1 && (2 : Nat) == 2) = true then _ else _) _ _ s
  rw [if_neg (show ¬ ((1 : Int) == 0 && (-1 : Int) == 1 && (2 : Nat) == 2) = true by decide)]
  have e : ((List.range 2).filterMap fun (k : Nat) => (#[u, v] : Array Value)[((1 : Int) + (k : Int) * (-1)).toNat]?).toArray = #[v, u] := rfl
  show wpAny (model prog w) _ (_ >>= _) _ _ s
  have hz : sizeOk (.seq #[v, u]) := by show 2 ≤ sizeLine; decide
  first
    | exact wpAny_bind (m := Builtin.Tuple.tupleExact _) (wpAny_newObj_type (wpAny_pure ⟨_, rfl, wpAny_pure h⟩) hz)
    | exact wpAny_bind (m := Builtin.Tuple.tupleExact _) (wpAny_newObj_type (wpAny_bind (wpAny_pure (wpAny_pure ⟨_, rfl, wpAny_pure h⟩))) hz)
    | exact wpAny_bind (wpAny_bind (m := Builtin.Tuple.tupleExact _) (wpAny_newObj_type (wpAny_pure (wpAny_pure ⟨_, rfl, wpAny_pure h⟩)) hz))
    | exact wpAny_bind (wpAny_bind (m := Builtin.Tuple.tupleExact _) (wpAny_newObj_type (wpAny_pure ⟨_, rfl, wpAny_pure h⟩) hz))
end
section
variable {X : Cx}
/-- (x, y)[::-1] -/
theorem pe_back {e : Expr} {te : TE} {k : Nat} {p1 p2 p3 pos : Pos} (he : PE X e te) : PE X (.Subscript e (.Slice none none (some (.UnaryOp .USub (.Constant (.int 1) k p1) p2)) p3) pos)
    (fun σ H Q => te σ H fun x H1 => ∃ a u v, x = .ref a ∧ SqT X.K H1 a [u, v] ∧ ∀ p, H1 p = none → Q (.ref p) (upd H1 p (.tup [v, u]))) := by
  refine ⟨fun pins s σ H Q I h => Subscript_ (thn (he.run pins s σ H _ I h) fun z s1 ⟨x, H1, J, r1, a, u, v, ex, hx, q⟩ => ?_)⟩
  subst ex
  cases r1
  have hst : PO X (some (.UnaryOp .USub (.Constant (.int 1) k p1) p2)) (tPart (tUn (rU fun i => .int (-i)) (tC (.int 1)))) := po_some (pe_un un_neg pe_int)
  refine wpAny_Slice (thn (po_none.run pins s1 σ H1 (fun o G => o = none ∧ G = H1) J ⟨rfl, rfl⟩) fun vl s2 ⟨l, G2, J2, pl, el, e2⟩ => ?_)
  subst el e2
  refine thn (po_none.run pins s2 σ G2 (fun o G => o = none ∧ G = G2) J2 ⟨rfl, rfl⟩) fun vu s3 ⟨m, G3, J3, pu, eu, e3⟩ => ?_
  subst eu e3
  refine thn (hst.run pins s3 σ G3 (fun o G => o = some (-1) ∧ G = G3) J3 ⟨1, rfl, -1, rfl, rfl, rfl⟩) fun vs s4 ⟨o, G4, J4, ps, eo, e4⟩ => ?_
  subst eo e4
  have J5 : Inv X pins σ G4 { s4 with heap := s4.heap.push { cls := .type "slice", data := .fields #[vl, vu, vs] } } := J4.kept (t' := s4.toks) fun b ob q => Heap.get?_push_of_some _ q
  obtain ⟨its, r, ht, hz⟩ := J5.tuple hx
  cases pl
  cases pu
  cases r with
  | cons ru r =>
    cases r with
    | cons rv' r =>
      cases r
      refine tail_any (ops := [.ref a, .ref s4.heap.objs.size]) ht.typeIs PyProof.Rows.slot_tuple_getitem.lookup ?_ (by with_unfolding_all rfl)
      refine tuple_back ht (Heap.IsSliceOf.new _ .none .none vs) ps ?_
      refine ⟨.ref _, _, J5.laid (t' := s4.toks) (o := .tup [v, u]) (fun b ob q => Heap.get?_push_of_some _ q) (Nat.le_refl _) ?_, rfl, q _ (J5.hok.fresh (Nat.le_refl _))⟩
      exact ⟨by show 2 ≤ sizeLine; decide, _, .cons rv' (.cons ru .nil), IsTup.new _ _⟩
end
/-! ### calls: all by keywords; a def with a star -/
section
variable {X : Cx} {CX : CXT} {k : Nat} {f : Addr} {fd : FuncData} {ps ks : List Str} {sp : Sp} {E : XK} {x : Str} {p pos : Pos} {e : Expr} {es : List Expr} {kws : List Keyword} {t tk : TA} {g : List Value → List Value → List Value} {gV : List V → List V → List V}
theorem pe_callR (F : FnR X.prog X.w X.K X.mg X.base CX k f sp) (hr : Room k X.A) (hg : Gl X x) (hm : X.mg x = some (.ref f)) (hk : PySem.W.keepIn X.K (.ref f) = true) (hx : Passes CX X E) (ha : PA X (e :: es) t) (hd : (x == ("__debug__" : Str)) = false := by decide)
    (he : starEach (e :: es) X.env = (false, eval e X.env) :: starEach es X.env := by rfl) (hp : (backTo pos (starEach es X.env)).any (·.1) = false := by rfl) : PE X (.Call (.Name x p) (e :: es) [] pos) (fun σ H Q => t σ H fun vs H1 => sp vs H1 Q E) := by
  refine ⟨fun pins s σ H Q I h => wpAny_Call_Name_kw (ld_glob I hg hm ?_ hd)⟩
  refine PySem.W.callWith_K (h₀ := X.base) I.ok.mod.kin hk (thn (ha.run pos pins s σ H _ I h) fun us s1 ⟨vs, H1, J, r, q⟩ => ⟨J.kIn, ?_⟩) he hp
  exact wpAny_call (run_fnR F hr hx J r q)
end
end Sw
namespace Sw
open PySem PySem.Spec PyProof.Rows L2
section
variable {X : Cx} {CX : CXT} {k : Nat} {f : Addr} {fd : FuncData} {ps ks : List Str} {sp : Sp} {E : XK} {x : Str} {p pos : Pos} {kws : List Keyword} {tk : TA} {g : List Value → List Value → List Value} {gV : List V → List V → List V}
/-- f(k = v, ..) -/
theorem pe_callKw (F : FnOk X.prog X.w X.K X.mg X.base CX k f fd ps sp) (hr : Room k X.A) (hg : Gl X x) (hm : X.mg x = some (.ref f)) (hk : PySem.W.keepIn X.K (.ref f) = true) (hb : KBn X.K fd ps 0 ks g gV) (hx : Passes CX X E) (hkw : PK X kws tk)
    (hall : (backToKw pos (keywordEach kws X.env)).all (·.1.isSome) = true := by rfl) (hks : (backToKw pos (keywordEach kws X.env)).filterMap (·.1) = ks := by rfl) (hd : (x == ("__debug__" : Str)) = false := by decide)
    (hp : ((backTo pos (starEach [] X.env)).any (·.1) || (backToKw pos (keywordEach kws X.env)).any (·.1.isNone)) = false := by rfl) : PE X (.Call (.Name x p) [] kws pos) (fun σ H Q => tk σ H fun zs H2 => zs.length = ks.length ∧ sp (gV [] zs) H2 Q E) := by
  refine ⟨fun pins s σ H Q I h => wpAny_Call_Name_kw (ld_glob I hg hm ?_ hd)⟩
  refine PySem.W.callWith_KW0 (h₀ := X.base) I.ok.mod.kin hk hall ?_ hp
  refine thn (hkw.run pos pins s σ H _ I h) fun ws s2 ⟨zs, H2, J, rz, l2, q2⟩ => ⟨J.kIn, ?_⟩
  rw [hks]
  exact run_fnN (us := []) (vs := []) F hr hb hx J .nil rz rfl l2 q2
end
/-- all parameters by name, in their order -/
theorem kb_all {K : PySem.W.Frag} {x q : Str} {pa : Arguments} {bo : List Stmt} {sc : Scope} {f : Addr} {fd : FuncData} {ps : List Str} (F : FunD K x q pa bo sc [] [] f fd)
    (h : ∀ (kV doc pm : Value) (an : Option Addr) (cv ct : Value) (ws : List Value), ws.length = ps.length → bindArgs (PySem.W.fnOf x q pa bo sc .none kV doc pm an cv ct) ⟨[], ps.zip ws⟩ = pure (ps.zip ws)) : KBn K fd ps 0 ps (fun us ws => us ++ ws) (fun vs zs => vs ++ zs) := by
  obtain ⟨oc, od, dV, kV, doc, pm, an, cv, ct, osl, rfl, lk, hcd, hD, hK⟩ := F.ex
  rcases hD with ⟨_, rfl⟩ | ⟨e, _⟩
  · refine ⟨fun s us ws _ l1 l2 => ?_, fun r1 r2 => r1.append r2⟩
    obtain rfl : us = [] := List.eq_nil_of_length_eq_zero l1
    exact .of_eq (h kV doc pm an cv ct ws l2)
  · exact absurd rfl e
/-! ### the bounds of a run's beginning -/
theorem units_of {k : Nat} {A : Around} (hr : Room k A) : A.units + 64 < cLine := hr.units
/-- a value of a kind that isinstance tells -/
inductive Kd (K : PySem.W.Frag) (H : Hp) : V → Prop
  | non : Kd K H .non
  | bl (b : Bool) : Kd K H (.bl b)
  | int (i : Int) : Kd K H (.int i)
  | str (z : Str) (h : z.length ≤ 1000000) : Kd K H (.str z)
  | lst {a : Addr} {xs : List V} (h : H a = some (.lst xs)) : Kd K H (.ref a)
  | tup {a : Addr} {xs : List V} (h : H a = some (.tup xs)) : Kd K H (.ref a)
  | dk {a : Addr} {xs : List (Key × V)} (h : H a = some (.dK xs)) : Kd K H (.ref a)
theorem Kd.same {K : PySem.W.Frag} {H H' : Hp} {x : V} (h : Kd K H x) (s : Same H H') : Kd K H' x := by
  cases h with
  | non => exact .non
  | bl b => exact .bl b
  | int i => exact .int i
  | str z h => exact .str z h
  | lst h => exact .lst (s _ _ h)
  | tup h => exact .tup (s _ _ h)
  | dk h => exact .dk (s _ _ h)
def isStrV : V → Bool
  | .str _ => true
  | _ => false
theorem isi_str {K : PySem.W.Frag} {H : Hp} {x : V} (h : Kd K H x) : ∃ t, TyX K H x t ∧ PySem.W.kitOne K t (.type "str") = some (isStrV x) := by
  cases h with
  | non => exact ⟨_, .base .non, kit_ty (a := "NoneType") (b := "str") (r := false) (by decide +kernel)⟩
  | bl b => exact ⟨_, .base (.bl b), kit_ty (a := "bool") (b := "str") (r := false) (by decide +kernel)⟩
  | int i => exact ⟨_, .base (.int i), kit_ty (a := "int") (b := "str") (r := false) (by decide +kernel)⟩
  | str z h => exact ⟨_, .base (.str z), kit_ty (a := "str") (b := "str") (r := true) (by decide +kernel)⟩
  | lst h => exact ⟨_, .base (.lst h), kit_ty (a := "list") (b := "str") (r := false) (by decide +kernel)⟩
  | tup h => exact ⟨_, .base (.tup h), kit_ty (a := "tuple") (b := "str") (r := false) (by decide +kernel)⟩
  | dk h => exact ⟨_, .base (.dK h), kit_ty (a := "dict") (b := "str") (r := false) (by decide +kernel)⟩
end Sw
namespace Sw
open PySem PySem.Spec PyProof.Rows L2
/-! ### small data -/
def asc (z : Str) : Bool := z.cps.toList.all fun c => decide (c < 128)
mutual
def okD : PyData → Bool
  | .none | .bool _ => true
  | .int i => decide (i.natAbs < 10 ^ 7)
  | .str x => asc x
  | .list xs | .tuple xs => okAll xs
  | .dict _ => false
def okAll : List PyData → Bool
  | [] => true
  | x :: xs => okD x && okAll xs
end
theorem asc_lt {z : Str} (h : asc z = true) : ∀ c ∈ z.cps.toList, c < 128 := fun c hc => of_decide_eq_true (List.all_eq_true.mp h c hc)
mutual
theorem ok_can : ∀ d : PyData, okD d = true → d.canLay0 = true
  | .none, _ => by simp only [PyData.canLay0]
  | .bool _, _ => by simp only [PyData.canLay0]
  | .int _, _ => by simp only [PyData.canLay0]
  | .str x, h => by
    have := asc_lt (by simpa only [okD] using h)
    simp only [PyData.canLay0, PyData.strOk]
    rw [← Array.all_toList]
    exact List.all_eq_true.mpr fun c hc => decide_eq_true (Nat.lt_of_lt_of_le (this c hc) (by decide))
  | .list xs, h => by simpa only [PyData.canLay0] using ok_canAll xs (by simpa only [okD] using h)
  | .tuple xs, h => by simpa only [PyData.canLay0] using ok_canAll xs (by simpa only [okD] using h)
  | .dict _, h => by simp [okD] at h
theorem ok_canAll : ∀ ds : List PyData, okAll ds = true → PyData.canLayAll0 ds = true
  | [], _ => by simp only [PyData.canLayAll0]
  | d :: ds, h => by
    obtain ⟨h1, h2⟩ := Bool.and_eq_true_iff.mp (show (okD d && okAll ds) = true by simpa only [okAll] using h)
    simp only [PyData.canLayAll0, ok_can d h1, ok_canAll ds h2, Bool.and_self]
end
mutual
theorem ok_show : ∀ d : PyData, okD d = true → d.showable = true
  | .none, _ => by simp only [PyData.showable]
  | .bool _, _ => by simp only [PyData.showable]
  | .int i, h => by
    have h1 : i.natAbs < 10 ^ 7 := of_decide_eq_true (by simpa only [okD] using h)
    simp only [PyData.showable]
    exact decide_eq_true (by
      by_cases z : i.natAbs = 0
      · rw [z]; decide
      · have : i.natAbs.log2 < 24 := (Nat.log2_lt z).mpr (by omega)
        omega)
  | .str x, _ => by simp only [PyData.showable]
  | .list xs, h => by simpa only [PyData.showable] using ok_showAll xs (by simpa only [okD] using h)
  | .tuple xs, h => by simpa only [PyData.showable] using ok_showAll xs (by simpa only [okD] using h)
  | .dict _, h => by simp [okD] at h
theorem ok_showAll : ∀ ds : List PyData, okAll ds = true → PyData.showableAll ds = true
  | [], _ => by simp only [PyData.showableAll]
  | d :: ds, h => by
    obtain ⟨h1, h2⟩ := Bool.and_eq_true_iff.mp (show (okD d && okAll ds) = true by simpa only [okAll] using h)
    simp only [PyData.showableAll, ok_show d h1, ok_showAll ds h2, Bool.and_self]
end
mutual
theorem ok_short : ∀ d : PyData, okD d = true → d.leavesShort 10 = true
  | .none, _ => by simp only [PyData.leavesShort]
  | .bool _, _ => by simp only [PyData.leavesShort]
  | .int i, h => by
    have h1 : i.natAbs < 10 ^ 7 := of_decide_eq_true (by simpa only [okD] using h)
    simp only [PyData.leavesShort]
    have := int_text_length_le10 (k := 7) (by decide) h1
    refine decide_eq_true ?_
    simp only [PyData.shown]
    rw [PySem.ofString_length]
    omega
  | .str x, h => by
    have h1 := asc_lt (by simpa only [okD] using h)
    simp only [PyData.leavesShort]
    exact List.all_eq_true.mpr fun c hc => decide_eq_true (Nat.lt_of_lt_of_le (h1 c hc) (by decide))
  | .list xs, h => by simpa only [PyData.leavesShort] using ok_shortAll xs (by simpa only [okD] using h)
  | .tuple xs, h => by simpa only [PyData.leavesShort] using ok_shortAll xs (by simpa only [okD] using h)
  | .dict _, h => by simp [okD] at h
theorem ok_shortAll : ∀ ds : List PyData, okAll ds = true → PyData.leavesShortAll 10 ds = true
  | [], _ => by simp only [PyData.leavesShortAll]
  | d :: ds, h => by
    obtain ⟨h1, h2⟩ := Bool.and_eq_true_iff.mp (show (okD d && okAll ds) = true by simpa only [okAll] using h)
    simp only [PyData.leavesShortAll, ok_short d h1, ok_shortAll ds h2, Bool.and_self]
end
/-- data that repr and == take -/
structure Good (d : PyData) : Prop where
  ok : okD d = true
  dp : d.depth ≤ 60
  bk : d.bulk ≤ 2 ^ 20
theorem Good.shaped {d : PyData} (g : Good d) : SeqAt.shaped d = true := by
  unfold SeqAt.shaped
  rw [ok_can d g.ok, Bool.true_and]
  exact decide_eq_true (Nat.le_trans g.dp (by decide))
section
variable {X : Cx}
theorem call_rp (hG : X.A.guards = some []) (hu : X.A.units + 64 < cLine) : CallR X (.builtin "repr") (fun xs H Q => ∃ x d, xs = [x] ∧ Dp X.K H x d ∧ Good d ∧ Q (.str d.shown) H) := by
  intro pins s σ H xs us Q I r ⟨x, d, e, h, g, q⟩
  exact call_reprD hG hu pins s σ H xs us Q I r ⟨x, d, e, h, ok_show d g.ok, g.dp, PyData.shown_fits_bulk (B := 10) (by decide) (by decide) (ok_short d g.ok) g.bk, q⟩
theorem op_eqG (hu : X.A.units + 64 < cLine) : OpR X (compareOp .Eq) (fun x y H Q => ∃ d e, Dp X.K H x d ∧ Dp X.K H y e ∧ Good d ∧ Good e ∧ Q (.bl (PyData.eqv d e)) H) := by
  intro pins s σ H x y v u Q I rx ry ⟨d, e, h1, h2, g1, g2, q⟩
  exact op_eqD hu pins s σ H x y v u Q I rx ry ⟨d, e, h1, h2, g1.shaped, g2.shaped, q⟩
theorem op_neG (hu : X.A.units + 64 < cLine) : OpR X (compareOp .NotEq) (fun x y H Q => ∃ d e, Dp X.K H x d ∧ Dp X.K H y e ∧ Good d ∧ Good e ∧ Q (.bl (!PyData.eqv d e)) H) := by
  intro pins s σ H x y v u Q I rx ry ⟨d, e, h1, h2, g1, g2, q⟩
  exact op_neD hu pins s σ H x y v u Q I rx ry ⟨d, e, h1, h2, g1.shaped, g2.shaped, q⟩
end
/-! ### flat lists as data -/
theorem dp_strs {K : PySem.W.Frag} {H : Hp} : ∀ xs : List Str, DpAll K H (xs.map V.str) (xs.map PyData.str)
  | [] => .nil
  | x :: xs => .cons (.str x) (dp_strs xs)
theorem dp_ints {K : PySem.W.Frag} {H : Hp} : ∀ xs : List Int, DpAll K H (xs.map V.int) (xs.map PyData.int)
  | [] => .nil
  | x :: xs => .cons (.int x) (dp_ints xs)
theorem ok_strs : ∀ {xs : List Str}, (∀ x ∈ xs, asc x = true) → okAll (xs.map PyData.str) = true
  | [], _ => by simp only [List.map_nil, okAll]
  | x :: xs, h => by simp only [List.map_cons, okAll, okD, h x (List.mem_cons_self ..), ok_strs fun y hy => h y (List.mem_cons_of_mem _ hy), Bool.and_self]
theorem depth_strs : ∀ xs : List Str, PyData.depthAll (xs.map PyData.str) = 0
  | [] => by simp only [List.map_nil, PyData.depthAll]
  | x :: xs => by simp only [List.map_cons, PyData.depthAll, PyData.depth, depth_strs xs, Nat.max_self]
theorem bulk_strs : ∀ {xs : List Str} {n : Nat}, (∀ x ∈ xs, x.length ≤ n) → PyData.bulkAll (xs.map PyData.str) ≤ (n + 1) * xs.length
  | [], _, _ => by simp only [List.map_nil, PyData.bulkAll, Nat.zero_le]
  | x :: xs, n, h => by
    have h1 : x.cps.size ≤ n := h x (List.mem_cons_self ..)
    have h2 := bulk_strs (xs := xs) (n := n) fun y hy => h y (List.mem_cons_of_mem _ hy)
    simp only [List.map_cons, PyData.bulkAll, PyData.bulk, List.length_cons, Nat.mul_succ]
    omega
theorem eqv_nil (ds : List PyData) : PyData.eqv (.list ds) (.list []) = ds.isEmpty := by
  cases ds <;> simp [PyData.eqv, PyData.eqvAll]
mutual
theorem eqv_self : ∀ d : PyData, okD d = true → PyData.eqv d d = true
  | .none, _ => by simp only [PyData.eqv]
  | .bool b, _ => by simp [PyData.eqv]
  | .int _, _ => by simp [PyData.eqv]
  | .str x, h => by simp [PyData.eqv]
  | .list xs, h => by simpa only [PyData.eqv] using eqv_selfAll xs (by simpa only [okD] using h)
  | .tuple xs, h => by simpa only [PyData.eqv] using eqv_selfAll xs (by simpa only [okD] using h)
  | .dict _, h => by simp [okD] at h
theorem eqv_selfAll : ∀ ds : List PyData, okAll ds = true → PyData.eqvAll ds ds = true
  | [], _ => by simp only [PyData.eqvAll]
  | d :: ds, h => by
    obtain ⟨h1, h2⟩ := Bool.and_eq_true_iff.mp (show (okD d && okAll ds) = true by simpa only [okAll] using h)
    simp only [PyData.eqvAll, eqv_self d h1, eqv_selfAll ds h2, Bool.and_self]
end
theorem good_strs {xs : List Str} {n : Nat} (h1 : ∀ x ∈ xs, asc x = true) (h2 : ∀ x ∈ xs, x.length ≤ n) (h3 : (n + 1) * xs.length ≤ 2 ^ 20) : Good (.list (xs.map PyData.str)) where
  ok := by simpa only [okD] using ok_strs h1
  dp := by simp only [PyData.depth, depth_strs]; omega
  bk := by simp only [PyData.bulk]; exact Nat.le_trans (bulk_strs h2) h3
end Sw
namespace Sw
open PySem PySem.Spec PyProof.Rows L2
/-! ### beginnings and rests of texts -/
def mkS (l : List Nat) : Str := ⟨l.toArray⟩
def tkS (z : Str) (n : Nat) : Str := mkS (z.cps.toList.take n)
def drS (z : Str) (n : Nat) : Str := mkS (z.cps.toList.drop n)
theorem mkS_codes (l : List Nat) : (mkS l).cps.toList = l := rfl
theorem mkS_self (z : Str) : mkS z.cps.toList = z := by cases z; rfl
theorem mkS_len (l : List Nat) : (mkS l).length = l.length := rfl
theorem codes_len (z : Str) : z.cps.toList.length = z.length := Array.length_toList
theorem mkS_inj {a b : Str} (h : a.cps.toList = b.cps.toList) : a = b := by rw [← mkS_self a, ← mkS_self b, h]
theorem cut_head {z : Str} {n : Nat} (h : n ≤ z.length) : cutS z none (some (n : Int)) = tkS z n := by
  unfold cutS tkS mkS
  rw [HT.sIx_none, HT.sIx_nat, Nat.min_eq_left h, List.drop_zero, Nat.sub_zero]
theorem cut_tail {z : Str} {n : Nat} (h : n ≤ z.length) : cutS z (some (n : Int)) none = drS z n := by
  unfold cutS drS mkS
  rw [HT.sIx_none, HT.sIx_nat, Nat.min_eq_left h, List.take_of_length_le (by rw [List.length_drop, codes_len]; exact Nat.le_refl _)]
theorem item_at {z : Str} {n : Nat} (h : n < z.length) : atI z.cps.toList (n : Int) = some (z.cps.toList[n]'(by rw [codes_len]; exact h)) := atI_nat (List.getElem?_eq_getElem (by rw [codes_len]; exact h))
theorem asc_mk {l : List Nat} (h : ∀ c ∈ l, c < 128) : asc (mkS l) = true := List.all_eq_true.mpr fun c hc => decide_eq_true (h c hc)
theorem asc_tk {z : Str} (h : asc z = true) (n : Nat) : asc (tkS z n) = true := asc_mk fun c hc => asc_lt h c (List.mem_of_mem_take hc)
theorem asc_dr {z : Str} (h : asc z = true) (n : Nat) : asc (drS z n) = true := asc_mk fun c hc => asc_lt h c (List.mem_of_mem_drop hc)
theorem tk_len (z : Str) (n : Nat) : (tkS z n).length ≤ z.length := by
  show (z.cps.toList.take n).length ≤ _
  rw [List.length_take, codes_len]; omega
theorem dr_len (z : Str) (n : Nat) : (drS z n).length ≤ z.length := by
  show (z.cps.toList.drop n).length ≤ _
  rw [List.length_drop, codes_len]; omega
theorem line_big : (1000000 : Nat) ≤ sizeLine := by decide
end Sw
namespace Sw
open PySem PySem.Spec PyProof.Rows L2
/-! ### text * int, with its signs -/
theorem foldl_in (a : Array Nat) : ∀ (k : Nat) (b : Array Nat) (c : Nat), c ∈ ((List.replicate k a).foldl (· ++ ·) b).toList → c ∈ b.toList ∨ c ∈ a.toList
  | 0, b, c, h => .inl (by simpa using h)
  | k + 1, b, c, h => by
    rw [List.replicate_succ, List.foldl_cons] at h
    rcases foldl_in a k (b ++ a) c h with h | h
    · rw [Array.toList_append] at h
      exact List.mem_append.mp h
    · exact .inr h
section
variable {X : Cx}
theorem op_mulT : OpR X (binaryOp .Mult) (fun x y H Q => ∃ (z : Str) (k : Int), x = .str z ∧ y = .int k ∧ 2 ≤ k ∧ k ≤ 1000 ∧ 1 ≤ z.length ∧ z.length ≤ 1000 ∧ ∀ u : Str, u.length = k.toNat * z.length → (∀ c ∈ u.cps.toList, c ∈ z.cps.toList) → Q (.str u) H) := by
  intro pins s σ H x y v u Q I rx ry h
  obtain ⟨z, k, rfl, rfl, h1, h2, h3, h4, q⟩ := h
  obtain ⟨t, rfl⟩ := rx
  obtain ⟨t', rfl⟩ := ry
  have hk : z.length * k.toNat ≤ 1000000 := by
    have : k.toNat ≤ 1000 := by omega
    calc z.length * k.toNat ≤ 1000 * 1000 := Nat.mul_le_mul h4 this
      _ = 1000000 := rfl
  have big : (1000000 : Nat) ≤ sizeLine := line_big
  have e0 : (k == 1 || z.length == 0) = false := by
    rw [Bool.or_eq_false_iff]
    exact ⟨beq_eq_false_iff_ne.mpr (by omega), beq_eq_false_iff_ne.mpr (by omega)⟩
  refine P.mul_str ?_ (fun _ _ => ?_) (fun _ _ => ?_) ?_
  · have a1 : ¬ k < -(2 ^ 63 : Int) := by omega
    have a2 : ¬ k ≥ 2 ^ 63 := by omega
    rw [decide_eq_false a1, decide_eq_false a2]; rfl
  · have b1 : (1000 : Int) ≤ (2 ^ 63 - 1) / k := by
      rw [Int.le_ediv_iff_mul_le (by omega)]
      have : 1000 * k ≤ 1000000 := by omega
      omega
    omega
  · unfold Builtin.Str.tooLong
    simp only [decide_eq_false_iff_not]
    omega
  · rw [if_neg (show ¬ k < 1 by omega), e0]
    simp only [Bool.false_eq_true, if_false]
    have hlen : (⟨(List.replicate k.toNat z.cps).foldl (· ++ ·) #[]⟩ : Str).length = k.toNat * z.length := by
      show ((List.replicate k.toNat z.cps).foldl (· ++ ·) #[]).size = _
      rw [foldl_cat]
      show 0 + k.toNat * z.cps.size = k.toNat * z.cps.size
      omega
    refine ⟨?_, .str _, H, I.tok _, ⟨_, rfl⟩, q _ hlen fun c hc => ?_⟩
    · rw [hlen, Nat.mul_comm]; omega
    · rcases foldl_in z.cps k.toNat #[] c hc with h | h
      · cases h
      · exact h
end
/-! ### what stays -/
theorem seqT_same {K : PySem.W.Frag} {H H' : Hp} {a : Addr} {xs : List V} (e : Same H H') (h : SqT K H a xs) : SqT K H' a xs := by
  rcases h with (h | ⟨o, h⟩) | h
  · exact .inl (.inl (e _ _ h))
  · exact .inl (.inr ⟨o, e _ _ h⟩)
  · exact .inr h
mutual
theorem dp_same {K : PySem.W.Frag} {H H' : Hp} (e : Same H H') : ∀ (d : PyData) (v : V), Dp K H v d → Dp K H' v d
  | .none, _, h => by cases h; exact .non
  | .bool _, _, h => by cases h; exact .bl _
  | .int _, _, h => by cases h; exact .int _
  | .str _, _, h => by cases h; exact .str _
  | .list ds, _, h => by
    cases h with
    | lst h1 h2 => exact .lst (e.seq h1) (dps_same e ds _ h2)
  | .tuple ds, _, h => by
    cases h with
    | tup h1 h2 => exact .tup (seqT_same e h1) (dps_same e ds _ h2)
  | .dict _, _, h => by cases h
theorem dps_same {K : PySem.W.Frag} {H H' : Hp} (e : Same H H') : ∀ (ds : List PyData) (vs : List V), DpAll K H vs ds → DpAll K H' vs ds
  | [], _, h => by cases h; exact .nil
  | d :: ds, _, h => by
    cases h with
    | cons h1 h2 => exact .cons (dp_same e d _ h1) (dps_same e ds _ h2)
end
/-- the repr of a value is t -/
inductive Rv (K : PySem.W.Frag) (H : Hp) : V → Str → Prop
  | data {x : V} {d : PyData} (h : Dp K H x d) (s : d.showable = true) (dp : d.depth ≤ 60) (z : d.shown.length ≤ sizeLine) : Rv K H x d.shown
  | dk {a : Addr} (h : H a = some (.dK [])) : Rv K H (.ref a) (PyData.shown (.dict []))
theorem Rv.same {K : PySem.W.Frag} {H H' : Hp} {x : V} {t : Str} (e : Same H H') (h : Rv K H x t) : Rv K H' x t := by
  cases h with
  | data h s dp z => exact .data (dp_same e _ _ h) s dp z
  | dk h => exact .dk (e _ _ h)
theorem Rv.good {K : PySem.W.Frag} {H : Hp} {x : V} {d : PyData} (h : Dp K H x d) (g : Good d) : Rv K H x d.shown :=
  .data h (ok_show d g.ok) g.dp (PyData.shown_fits_bulk (B := 10) (by decide) (by decide) (ok_short d g.ok) g.bk)
theorem call_rv {X : Cx} (hG : X.A.guards = some []) (hu : X.A.units + 64 < cLine) : CallR X (.builtin "repr") (fun xs H Q => ∃ x t, xs = [x] ∧ Rv X.K H x t ∧ Q (.str t) H) := by
  intro pins s σ H xs us Q I r ⟨x, t, e, h, q⟩
  cases h with
  | data h hs dp z => exact call_reprD hG hu pins s σ H xs us Q I r ⟨x, _, e, h, hs, dp, z, q⟩
  | dk h => exact call_repr0 hG hu pins s σ H xs us Q I r ⟨_, e, h, q⟩
/-- a value that is asked: its kind, its repr -/
structure Itm (K : PySem.W.Frag) (H : Hp) (x : V) : Prop where
  kd : Kd K H x
  sm : ∀ z, x = .str z → asc z = true ∧ z.length ≤ 1000
  rv : ∃ t, Rv K H x t
theorem Itm.same {K : PySem.W.Frag} {H H' : Hp} {x : V} (h : Itm K H x) (e : Same H H') : Itm K H' x := ⟨h.kd.same e, h.sm, let ⟨t, r⟩ := h.rv; ⟨t, r.same e⟩⟩
theorem good_str {z : Str} (h : asc z = true) (hl : z.length ≤ 1000) : Good (.str z) where
  ok := by simpa only [okD] using h
  dp := by simp only [PyData.depth]; omega
  bk := by
    simp only [PyData.bulk]
    have e : z.cps.size ≤ 1000 := hl
    omega
theorem good_strsT {xs : List Str} {n : Nat} (h1 : ∀ x ∈ xs, asc x = true) (h2 : ∀ x ∈ xs, x.length ≤ n) (h3 : (n + 1) * xs.length ≤ 2 ^ 20) : Good (.tuple (xs.map PyData.str)) where
  ok := by simpa only [okD] using ok_strs h1
  dp := by simp only [PyData.depth, depth_strs]; omega
  bk := by simp only [PyData.bulk]; exact Nat.le_trans (bulk_strs h2) h3
section
variable {K : PySem.W.Frag} {H : Hp}
theorem itm_str {z : Str} (h : asc z = true) (hl : z.length ≤ 1000) : Itm K H (.str z) := ⟨.str z (by omega), fun y e => by cases e; exact ⟨h, hl⟩, _, .good (.str z) (good_str h hl)⟩
theorem itm_non : Itm K H .non := ⟨.non, (fun y e => nomatch e), _, .good .non ⟨by decide, by decide, by decide⟩⟩
theorem itm_bl (b : Bool) : Itm K H (.bl b) := ⟨.bl b, (fun y e => nomatch e), _, .good (.bl b) ⟨by simp only [okD], by simp only [PyData.depth]; omega, by cases b <;> decide⟩⟩
theorem itm_int {i : Int} {k : Nat} (hk : 0 < k) (hk2 : k ≤ 1000) (h : i.natAbs < 10 ^ k) (hs : (PyData.int i).showable = true) : Itm K H (.int i) :=
  ⟨.int i, (fun y e => nomatch e), _, .data (.int i) hs (by simp only [PyData.depth]; omega) (by
    have := int_text_length_le10 hk h
    have := line_big
    simp only [PyData.shown]
    rw [PySem.ofString_length]
    omega)⟩
theorem itm_strs {a : Addr} {xs : List Str} {n : Nat} (ha : H a = some (.lst (xs.map V.str))) (h1 : ∀ x ∈ xs, asc x = true) (h2 : ∀ x ∈ xs, x.length ≤ n) (h3 : (n + 1) * xs.length ≤ 2 ^ 20) : Itm K H (.ref a) :=
  ⟨.lst ha, (fun y e => nomatch e), _, .good (.lst (SqL.of ha) (dp_strs xs)) (good_strs h1 h2 h3)⟩
theorem itm_strsT {a : Addr} {xs : List Str} {n : Nat} (ha : H a = some (.tup (xs.map V.str))) (h1 : ∀ x ∈ xs, asc x = true) (h2 : ∀ x ∈ xs, x.length ≤ n) (h3 : (n + 1) * xs.length ≤ 2 ^ 20) : Itm K H (.ref a) :=
  ⟨.tup ha, (fun y e => nomatch e), _, .good (.tup (SqT.of ha) (dp_strs xs)) (good_strsT h1 h2 h3)⟩
theorem itm_dk {a : Addr} (ha : H a = some (.dK [])) : Itm K H (.ref a) := ⟨.dk ha, (fun y e => nomatch e), _, .dk ha⟩
end
end Sw
namespace Sw
open PySem PySem.Spec PyProof.Rows L2
section
variable {X : Cx}
/-- x < y: texts, ints, and tuples of such (one kind on both sides) -/
theorem op_ltD (α : Type) [DecidableEq α] [PySem.W.DatumOrd α] (hu : X.A.units + 64 < cLine) (hd : PySem.W.Datum.depth α ≤ 60) : OpR X (compareOp .Lt) (fun x y H Q => ∃ a b : α, Dp X.K H x (PySem.W.Datum.toD a) ∧ Dp X.K H y (PySem.W.Datum.toD b) ∧ Q (.bl (PySem.W.DatumOrd.lt a b)) H) := by
  intro pins s σ H x y v u Q I rx ry ⟨a, b, h1, h2, q⟩
  obtain ⟨as, r1⟩ := Dp.reads I _ x v h1 rx
  obtain ⟨bs, r2⟩ := Dp.reads I _ y u h2 ry
  exact PySem.W.lt_datum ⟨as, r1⟩ ⟨bs, r2⟩ (by omega) ⟨.bl _, H, I, rfl, q⟩
end
end Sw
namespace Dl
open PySem PySem.Spec PyProof.Rows L2 Sw
/-! ### data, without the heap -/
inductive D where
  | non | bl (b : Bool) | int (i : Int) | str (z : Str)
  | lst (ds : List D) | tup (ds : List D)
  | dk (ks : List Key) (ds : List D) | dt (ks : List (List Key)) (ds : List D)
  | ins (C : Addr) (ns : List Str) (ds : List D)
  | at (v : V)
mutual
inductive Dv (K : PySem.W.Frag) (G : Hp) : V → D → Prop
  | non : Dv K G .non .non
  | bl (b : Bool) : Dv K G (.bl b) (.bl b)
  | int (i : Int) : Dv K G (.int i) (.int i)
  | str (z : Str) : Dv K G (.str z) (.str z)
  | lst {a : Addr} {xs : List V} {ds : List D} : G a = some (.lst xs) → DvAll K G xs ds → Dv K G (.ref a) (.lst ds)
  | tup {a : Addr} {xs : List V} {ds : List D} : G a = some (.tup xs) → DvAll K G xs ds → Dv K G (.ref a) (.tup ds)
  | dk {a : Addr} {kvs : List (Key × V)} {ds : List D} : G a = some (.dK kvs) → DvAll K G (kvs.map (·.2)) ds → Dv K G (.ref a) (.dk (kvs.map (·.1)) ds)
  | dt {a : Addr} {kvs : List (List Key × V)} {ds : List D} : G a = some (.dT kvs) → DvAll K G (kvs.map (·.2)) ds → Dv K G (.ref a) (.dt (kvs.map (·.1)) ds)
  | ins {a C dx : Addr} {fs : List (Str × V)} {ds : List D} : G a = some (.ins C dx fs) → DvAll K G (fs.map (·.2)) ds → Dv K G (.ref a) (.ins C (fs.map (·.1)) ds)
  | at (v : V) : Dv K G v (.at v)
inductive DvAll (K : PySem.W.Frag) (G : Hp) : List V → List D → Prop
  | nil : DvAll K G [] []
  | cons {v : V} {vs : List V} {d : D} {ds : List D} : Dv K G v d → DvAll K G vs ds → DvAll K G (v :: vs) (d :: ds)
end
mutual
theorem Dv.up {K : PySem.W.Frag} {G G' : Hp} (e : Same G G') : ∀ (d : D) (v : V), Dv K G v d → Dv K G' v d
  | .non, _, h => by cases h; exact .non
  | .bl _, _, h => by cases h; exact .bl _
  | .int _, _, h => by cases h; exact .int _
  | .str _, _, h => by cases h; exact .str _
  | .lst ds, _, h => by cases h with | lst h1 h2 => exact .lst (e _ _ h1) (DvAll.up e ds _ h2)
  | .tup ds, _, h => by cases h with | tup h1 h2 => exact .tup (e _ _ h1) (DvAll.up e ds _ h2)
  | .dk _ ds, _, h => by cases h with | dk h1 h2 => exact .dk (e _ _ h1) (DvAll.up e ds _ h2)
  | .dt _ ds, _, h => by cases h with | dt h1 h2 => exact .dt (e _ _ h1) (DvAll.up e ds _ h2)
  | .ins _ _ ds, _, h => by cases h with | ins h1 h2 => exact .ins (e _ _ h1) (DvAll.up e ds _ h2)
  | .at _, _, h => by cases h; exact .at _
theorem DvAll.up {K : PySem.W.Frag} {G G' : Hp} (e : Same G G') : ∀ (ds : List D) (vs : List V), DvAll K G vs ds → DvAll K G' vs ds
  | [], _, h => by cases h; exact .nil
  | d :: ds, _, h => by cases h with | cons h1 h2 => exact .cons (Dv.up e d _ h1) (DvAll.up e ds _ h2)
end
theorem dva_len {K : PySem.W.Frag} {G : Hp} : ∀ {vs : List V} {ds : List D}, DvAll K G vs ds → vs.length = ds.length
  | _, _, .nil => rfl
  | _, _, .cons _ t => by rw [List.length_cons, List.length_cons, dva_len t]
theorem dva_get {K : PySem.W.Frag} {G : Hp} : ∀ {vs : List V} {ds : List D} {i : Nat} {v : V}, DvAll K G vs ds → vs[i]? = some v → ∃ d, ds[i]? = some d ∧ Dv K G v d
  | _, _, _, _, .nil, e => by simp at e
  | _, _, 0, _, .cons h _, e => by
    have : _ = _ := Option.some.inj (by simpa using e)
    subst this
    exact ⟨_, rfl, h⟩
  | _, _, i + 1, _, .cons _ t, e => by
    obtain ⟨d, h1, h2⟩ := dva_get (i := i) t (by simpa using e)
    exact ⟨d, by simpa using h1, h2⟩
theorem dva_get' {K : PySem.W.Frag} {G : Hp} : ∀ {vs : List V} {ds : List D} {i : Nat} {d : D}, DvAll K G vs ds → ds[i]? = some d → ∃ v, vs[i]? = some v ∧ Dv K G v d
  | _, _, _, _, .nil, e => by simp at e
  | _, _, 0, _, .cons h _, e => by
    have : _ = _ := Option.some.inj (by simpa using e)
    subst this
    exact ⟨_, rfl, h⟩
  | _, _, i + 1, _, .cons _ t, e => by
    obtain ⟨d, h1, h2⟩ := dva_get' (i := i) t (by simpa using e)
    exact ⟨d, by simpa using h1, h2⟩
theorem dva_app {K : PySem.W.Frag} {G : Hp} : ∀ {vs ws : List V} {ds es : List D}, DvAll K G vs ds → DvAll K G ws es → DvAll K G (vs ++ ws) (ds ++ es)
  | _, _, _, _, .nil, h => h
  | _, _, _, _, .cons a t, h => .cons a (dva_app t h)
theorem dva_take {K : PySem.W.Frag} {G : Hp} : ∀ {vs : List V} {ds : List D} (n : Nat), DvAll K G vs ds → DvAll K G (vs.take n) (ds.take n)
  | _, _, 0, _ => .nil
  | _, _, _ + 1, .nil => .nil
  | _, _, n + 1, .cons a t => .cons a (dva_take n t)
theorem dva_drop {K : PySem.W.Frag} {G : Hp} : ∀ {vs : List V} {ds : List D} (n : Nat), DvAll K G vs ds → DvAll K G (vs.drop n) (ds.drop n)
  | _, _, 0, h => h
  | _, _, _ + 1, .nil => .nil
  | _, _, n + 1, .cons _ t => dva_drop n t
theorem dva_rev {K : PySem.W.Frag} {G : Hp} : ∀ {vs : List V} {ds : List D}, DvAll K G vs ds → DvAll K G vs.reverse ds.reverse
  | _, _, .nil => .nil
  | _, _, .cons a t => by rw [List.reverse_cons, List.reverse_cons]; exact dva_app (dva_rev t) (.cons a .nil)
theorem dva_split {K : PySem.W.Frag} {G : Hp} : ∀ {vs : List V} {ds es : List D}, DvAll K G vs (ds ++ es) → ∃ xs ys, vs = xs ++ ys ∧ DvAll K G xs ds ∧ DvAll K G ys es
  | vs, [], es, h => ⟨[], vs, rfl, .nil, h⟩
  | _, d :: ds, es, h => by
    cases h with
    | cons a t =>
      obtain ⟨xs, ys, rfl, h1, h2⟩ := dva_split (ds := ds) t
      exact ⟨_ :: xs, ys, rfl, .cons a h1, h2⟩
theorem dva_set {K : PySem.W.Frag} {G : Hp} {v : V} {d : D} (h : Dv K G v d) : ∀ {vs : List V} {ds : List D} (i : Nat), DvAll K G vs ds → DvAll K G (vs.set i v) (ds.set i d)
  | _, _, _, .nil => .nil
  | _, _, 0, .cons _ t => .cons h t
  | _, _, i + 1, .cons a t => .cons a (dva_set h i t)
/-! ### slots -/
inductive Sl where
  | v (d : D)
  | o (d : D)
/-- the state: the slots, the number of draws -/
structure Ds where
  ρ : List (Option Sl)
  dr : Int
def getS : List (Option Sl) → Nat → Option Sl
  | [], _ => none
  | x :: _, 0 => x
  | _ :: l, n + 1 => getS l n
def setS : List (Option Sl) → Nat → Option Sl → List (Option Sl)
  | [], _, _ => []
  | _ :: l, 0, x => x :: l
  | y :: l, n + 1, x => y :: setS l n x
theorem setS_len : ∀ (l : List (Option Sl)) (i : Nat) (x : Option Sl), (setS l i x).length = l.length
  | [], _, _ => rfl
  | _ :: _, 0, _ => rfl
  | _ :: l, n + 1, x => by rw [setS, List.length_cons, List.length_cons, setS_len l n x]
theorem getS_setS : ∀ {l : List (Option Sl)} {i : Nat} {x : Option Sl} {j : Nat} {s : Sl}, getS (setS l i x) j = some s → (j = i ∧ x = some s ∧ i < l.length) ∨ (j ≠ i ∧ getS l j = some s)
  | [], _, _, _, _, h => by cases h
  | _ :: _, 0, _, 0, _, h => .inl ⟨rfl, h, by simp⟩
  | _ :: _, 0, _, _ + 1, _, h => .inr ⟨by simp, h⟩
  | _ :: _, _ + 1, _, 0, _, h => .inr ⟨by simp, h⟩
  | _ :: l, i + 1, x, j + 1, s, h => by
    rcases getS_setS (l := l) (i := i) (j := j) (show getS (setS l i x) j = some s from h) with ⟨e, h1, h2⟩ | ⟨e, h1⟩
    · exact .inl ⟨by rw [e], h1, by simpa using h2⟩
    · exact .inr ⟨fun q => e (by omega), h1⟩
theorem getS_lt : ∀ {l : List (Option Sl)} {j : Nat} {s : Sl}, getS l j = some s → j < l.length
  | [], _, _, h => by cases h
  | _ :: _, 0, _, _ => by simp
  | _ :: l, j + 1, s, h => by have := getS_lt (l := l) (j := j) h; simpa using this
/-! ### the world of a def's run: what was frozen at its entry, what stood there, the deck -/
structure Dek where
  dk : List Addr
  deck : Hp → Int → Prop
  st : ∀ H H' n, deck H n → (∀ a ∈ dk, H' a = H a) → deck H' n
  tr : ∀ H n, deck H n → ∀ a ∈ dk, H a ≠ none
structure Wd (k : Dek) where
  B : Hp
  F : Hp
  bd : ∀ a ∈ k.dk, B a = none
  fd : ∀ a ∈ k.dk, F a = none
abbrev Wd.dk {k : Dek} (_ : Wd k) := k.dk
abbrev Wd.deck {k : Dek} (_ : Wd k) := k.deck
theorem Wd.st {k : Dek} (W : Wd k) : ∀ H H' n, W.deck H n → (∀ a ∈ W.dk, H' a = H a) → W.deck H' n := k.st
theorem Wd.tr {k : Dek} (W : Wd k) : ∀ H n, W.deck H n → ∀ a ∈ W.dk, H a ≠ none := k.tr
def Wd.of (k : Dek) (G H : Hp) (h : ∀ a ∈ k.dk, G a = none) : Wd k := ⟨G, fun a => if a ∈ k.dk then none else H a, h, fun a m => if_pos m⟩
/-- an object that a slot owns -/
def Own (K : PySem.W.Frag) (G H : Hp) (a : Addr) : D → Prop
  | .lst ds => ∃ xs, H a = some (.lst xs) ∧ DvAll K G xs ds
  | .dk ks ds => ∃ kvs, H a = some (.dK kvs) ∧ kvs.map (·.1) = ks ∧ DvAll K G (kvs.map (·.2)) ds
  | .dt ks ds => ∃ kvs, H a = some (.dT kvs) ∧ kvs.map (·.1) = ks ∧ DvAll K G (kvs.map (·.2)) ds
  | .ins C ns ds => ∃ dx fs, H a = some (.ins C dx fs) ∧ fs.map (·.1) = ns ∧ DvAll K G (fs.map (·.2)) ds
  | _ => False
theorem Own.up {K : PySem.W.Frag} {G G' H H' : Hp} {a : Addr} {d : D} (e : Same G G') (h : H' a = H a) (o : Own K G H a d) : Own K G' H' a d := by
  cases d with
  | lst ds => obtain ⟨xs, h1, h2⟩ := o; exact ⟨xs, h.trans h1, DvAll.up e _ _ h2⟩
  | dk ks ds => obtain ⟨kvs, h1, h2, h3⟩ := o; exact ⟨kvs, h.trans h1, h2, DvAll.up e _ _ h3⟩
  | dt ks ds => obtain ⟨kvs, h1, h2, h3⟩ := o; exact ⟨kvs, h.trans h1, h2, DvAll.up e _ _ h3⟩
  | ins C ns ds => obtain ⟨dx, fs, h1, h2, h3⟩ := o; exact ⟨dx, fs, h.trans h1, h2, DvAll.up e _ _ h3⟩
  | _ => exact o.elim
theorem Own.ex {K : PySem.W.Frag} {G H : Hp} {a : Addr} {d : D} (o : Own K G H a d) : ∃ u, H a = some u := by
  cases d with
  | lst ds => obtain ⟨xs, h1, h2⟩ := o; exact ⟨_, h1⟩
  | dk ks ds => obtain ⟨kvs, h1, h2, h3⟩ := o; exact ⟨_, h1⟩
  | dt ks ds => obtain ⟨kvs, h1, h2, h3⟩ := o; exact ⟨_, h1⟩
  | ins C ns ds => obtain ⟨dx, fs, h1, h2, h3⟩ := o; exact ⟨_, h1⟩
  | _ => exact o.elim
/-- an owned object, frozen -/
theorem Own.frz {K : PySem.W.Frag} {G H : Hp} {a : Addr} {d : D} (o : Own K G H a d) (n : G a = none) : ∃ u, H a = some u ∧ Dv K (upd G a u) (.ref a) d := by
  have s : ∀ u, Same G (upd G a u) := fun u b o hb => by rw [upd_ne (ne_of_none hb n)]; exact hb
  cases d with
  | lst ds => obtain ⟨xs, h1, h2⟩ := o; exact ⟨_, h1, .lst upd_same (DvAll.up (s _) _ _ h2)⟩
  | dk ks ds => obtain ⟨kvs, h1, rfl, h3⟩ := o; exact ⟨_, h1, .dk upd_same (DvAll.up (s _) _ _ h3)⟩
  | dt ks ds => obtain ⟨kvs, h1, rfl, h3⟩ := o; exact ⟨_, h1, .dt upd_same (DvAll.up (s _) _ _ h3)⟩
  | ins C ns ds => obtain ⟨dx, fs, h1, rfl, h3⟩ := o; exact ⟨_, h1, .ins upd_same (DvAll.up (s _) _ _ h3)⟩
  | _ => exact o.elim
/-- a is owned: not frozen, younger than the entry, not the deck's -/
structure Frsh {k : Dek} (W : Wd k) (G : Hp) (a : Addr) : Prop where
  g : G a = none
  f : W.F a = none
  d : a ∉ W.dk
def SlOk {k : Dek} (W : Wd k) (K : PySem.W.Frag) (G H : Hp) (v : V) : Sl → Prop
  | .v d => Dv K G v d
  | .o d => ∃ a, v = .ref a ∧ Frsh W G a ∧ Own K G H a d
/-- the heap H, its frozen part G and the slots σ are what S tells -/
structure Rep {k : Dek} (W : Wd k) (K : PySem.W.Frag) (G H : Hp) (σ : L2.St) (S : Ds) : Prop where
  gh : Same G H
  bg : Same W.B G
  fr : Same W.F H
  nw : ∀ a o, G a = some o → W.B a = some o ∨ (W.F a = none ∧ a ∉ W.dk)
  len : σ.length = S.ρ.length
  sl : ∀ i s, getS S.ρ i = some s → ∃ v, σ[i]? = some (some v) ∧ SlOk W K G H v s
  ap : ∀ i j d e a, i ≠ j → getS S.ρ i = some (.o d) → getS S.ρ j = some (.o e) → σ[i]? = some (some (.ref a)) → σ[j]? ≠ some (some (.ref a))
  dk : W.deck H S.dr
section
variable {k : Dek} {W : Wd k} {K : PySem.W.Frag} {G H G' H' : Hp} {σ : L2.St} {S : Ds}
theorem Rep.gdk (R : Rep W K G H σ S) : ∀ a ∈ W.dk, G a = none := fun a ha => by
  cases e : G a with
  | none => rfl
  | some o =>
    rcases R.nw a o e with h | ⟨_, h⟩
    · rw [W.bd a ha] at h; cases h
    · exact absurd ha h
/-- the heap has grown: all that was is as it was, but the deck -/
theorem Rep.grow (R : Rep W K G H σ S) {n : Int} (g : Same G G') (h : Same G' H') (new : ∀ a o, G' a = some o → G a = some o ∨ (H a = none ∧ a ∉ W.dk)) (old : ∀ a o, H a = some o → a ∉ W.dk → H' a = some o) (dk : W.deck H' n) : Rep W K G' H' σ ⟨S.ρ, n⟩ where
  gh := h
  bg := R.bg.trans g
  fr := fun a o e => old a o (R.fr a o e) fun m => by rw [W.fd a m] at e; cases e
  nw := fun a o e => by
    rcases new a o e with e | ⟨e, m⟩
    · exact R.nw a o e
    · refine .inr ⟨?_, m⟩
      cases q : W.F a with
      | none => rfl
      | some u => rw [R.fr a u q] at e; cases e
  len := R.len
  sl := fun i s e => by
    obtain ⟨v, e1, ok⟩ := R.sl i s e
    refine ⟨v, e1, ?_⟩
    cases s with
    | v d => exact Dv.up g _ _ ok
    | o d =>
      obtain ⟨a, rfl, f, o⟩ := ok
      obtain ⟨u, hu⟩ := o.ex
      refine ⟨a, rfl, ⟨?_, f.f, f.d⟩, o.up g ?_⟩
      · cases q : G' a with
        | none => rfl
        | some u' =>
          rcases new a u' q with q | ⟨q, _⟩
          · rw [f.g] at q; cases q
          · rw [hu] at q; cases q
      · rw [hu]; exact old a u hu f.d
  ap := R.ap
  dk := dk
/-- a new object that is frozen at once -/
theorem Rep.new (R : Rep W K G H σ S) {p : Addr} {o : HO} (hp : H p = none) : Rep W K (upd G p o) (upd H p o) σ S := by
  have gp : G p = none := R.gh.free hp
  have pd : p ∉ W.dk := fun m => W.tr H S.dr R.dk p m hp
  have old : ∀ a u, H a = some u → a ∉ W.dk → upd H p o a = some u := fun a u e _ => by rw [upd_ne (ne_of_none e hp)]; exact e
  refine R.grow (n := S.dr) (fun b u e => by rw [upd_ne (ne_of_none e gp)]; exact e) (fun b u e => ?_) (fun b u e => ?_) old (W.st _ _ _ R.dk fun a m => upd_ne fun q => pd (q ▸ m))
  · by_cases q : b = p
    · subst q; rw [upd_same] at e ⊢; exact e
    · rw [upd_ne q] at e ⊢; exact R.gh b u e
  · by_cases q : b = p
    · subst q; exact .inr ⟨hp, pd⟩
    · rw [upd_ne q] at e; exact .inl e
/-- a new object that is not frozen -/
theorem Rep.newO (R : Rep W K G H σ S) {p : Addr} {o : HO} (hp : H p = none) : Rep W K G (upd H p o) σ S ∧ Frsh W G p := by
  have pd : p ∉ W.dk := fun m => W.tr H S.dr R.dk p m hp
  refine ⟨R.grow (n := S.dr) (Same.refl _) (fun b u e => ?_) (fun b u e => .inl e) (fun a u e _ => by rw [upd_ne (ne_of_none e hp)]; exact e) (W.st _ _ _ R.dk fun a m => upd_ne fun q => pd (q ▸ m)), R.gh.free hp, R.fr.free hp, pd⟩
  have e2 := R.gh b u e
  rw [upd_ne (ne_of_none e2 hp)]; exact e2
theorem same_upd {G : Hp} {p : Addr} {o : HO} (hp : G p = none) : Same G (upd G p o) := fun b u e => by rw [upd_ne (ne_of_none e hp)]; exact e
/-- an owned object is frozen -/
theorem Rep.frz (R : Rep W K G H σ S) {i : Nat} {d : D} {a : Addr} (e : getS S.ρ i = some (.o d)) (ei : σ[i]? = some (some (.ref a))) (f : Frsh W G a) (o : Own K G H a d) :
    ∃ u, H a = some u ∧ Dv K (upd G a u) (.ref a) d ∧ Rep W K (upd G a u) H σ ⟨setS S.ρ i (some (.v d)), S.dr⟩ := by
  obtain ⟨u, hu, dv⟩ := o.frz f.g
  have g := same_upd (o := u) f.g
  refine ⟨u, hu, dv, ⟨fun b v q => ?_, R.bg.trans g, R.fr, fun b v q => ?_, by rw [setS_len]; exact R.len, fun j s q => ?_, fun j k d1 e1 b hjk q1 q2 q3 => ?_, R.dk⟩⟩
  · by_cases z : b = a
    · subst z; rw [upd_same] at q; cases q; exact hu
    · rw [upd_ne z] at q; exact R.gh b v q
  · by_cases z : b = a
    · subst z; exact .inr ⟨f.f, f.d⟩
    · rw [upd_ne z] at q; exact R.nw b v q
  · rcases getS_setS q with ⟨rfl, q, _⟩ | ⟨hj, q⟩
    · cases q; exact ⟨_, ei, dv⟩
    · obtain ⟨v, e1, ok⟩ := R.sl j s q
      refine ⟨v, e1, ?_⟩
      cases s with
      | v d' => exact Dv.up g _ _ ok
      | o d' =>
        obtain ⟨b, rfl, f', o'⟩ := ok
        have ne : b ≠ a := fun z => R.ap i j d d' a (Ne.symm hj) e q ei (z ▸ e1)
        exact ⟨b, rfl, ⟨by rw [upd_ne ne]; exact f'.g, f'.f, f'.d⟩, o'.up g rfl⟩
  · rcases getS_setS q1 with ⟨_, q1, _⟩ | ⟨_, q1⟩
    · cases q1
    · rcases getS_setS q2 with ⟨_, q2, _⟩ | ⟨_, q2⟩
      · cases q2
      · exact R.ap j k d1 e1 b hjk q1 q2 q3
theorem set_get {l : List (Option V)} {i j : Nat} {x : Option V} (h : i < l.length) : (l.set i x)[j]? = if j = i then some x else l[j]? := by
  by_cases e : j = i
  · subst e; rw [if_pos rfl, List.getElem?_set_self h]
  · rw [if_neg e, List.getElem?_set_ne (Ne.symm e)]
/-- a slot is stored: a frozen value -/
theorem Rep.setV (R : Rep W K G H σ S) {i : Nat} {v : V} {d : D} (dv : Dv K G v d) : Rep W K G H (σ.set i (some v)) ⟨setS S.ρ i (some (.v d)), S.dr⟩ := by
  refine ⟨R.gh, R.bg, R.fr, R.nw, by rw [setS_len, List.length_set]; exact R.len, fun j s q => ?_, fun j k d1 e1 b hjk q1 q2 q3 q4 => ?_, R.dk⟩
  · rcases getS_setS q with ⟨rfl, q, hl⟩ | ⟨hj, q⟩
    · cases q
      exact ⟨v, by rw [List.getElem?_set_self (by rw [R.len]; exact hl)], dv⟩
    · obtain ⟨v', e1, ok⟩ := R.sl j s q
      exact ⟨v', by rw [List.getElem?_set_ne (Ne.symm hj)]; exact e1, ok⟩
  · rcases getS_setS q1 with ⟨_, q1, _⟩ | ⟨hj, q1⟩
    · cases q1
    · rcases getS_setS q2 with ⟨_, q2, _⟩ | ⟨hk, q2⟩
      · cases q2
      · rw [List.getElem?_set_ne (Ne.symm hj)] at q3
        rw [List.getElem?_set_ne (Ne.symm hk)] at q4
        exact R.ap j k d1 e1 b hjk q1 q2 q3 q4
/-- no slot owns a -/
def NoOwn (σ : L2.St) (S : Ds) (a : Addr) : Prop := ∀ i d, getS S.ρ i = some (.o d) → σ[i]? ≠ some (some (.ref a))
/-- a slot is stored: an owned object -/
theorem Rep.setO (R : Rep W K G H σ S) {i : Nat} {a : Addr} {d : D} (f : Frsh W G a) (o : Own K G H a d) (no : NoOwn σ S a) : Rep W K G H (σ.set i (some (.ref a))) ⟨setS S.ρ i (some (.o d)), S.dr⟩ := by
  refine ⟨R.gh, R.bg, R.fr, R.nw, by rw [setS_len, List.length_set]; exact R.len, fun j s q => ?_, fun j k d1 e1 b hjk q1 q2 q3 q4 => ?_, R.dk⟩
  · rcases getS_setS q with ⟨rfl, q, hl⟩ | ⟨hj, q⟩
    · cases q
      exact ⟨_, by rw [List.getElem?_set_self (by rw [R.len]; exact hl)], a, rfl, f, o⟩
    · obtain ⟨v', e1, ok⟩ := R.sl j s q
      exact ⟨v', by rw [List.getElem?_set_ne (Ne.symm hj)]; exact e1, ok⟩
  · rcases getS_setS q1 with ⟨rfl, _, hl⟩ | ⟨hj, q1'⟩
    · rcases getS_setS q2 with ⟨rfl, _, _⟩ | ⟨hk, q2'⟩
      · exact hjk rfl
      · rw [List.getElem?_set_self (by rw [R.len]; exact hl)] at q3
        rw [List.getElem?_set_ne (Ne.symm hk)] at q4
        cases q3
        exact no k e1 q2' q4
    · rcases getS_setS q2 with ⟨rfl, _, hl⟩ | ⟨hk, q2'⟩
      · rw [List.getElem?_set_self (by rw [R.len]; exact hl)] at q4
        rw [List.getElem?_set_ne (Ne.symm hj)] at q3
        cases q4
        exact no j d1 q1' q3
      · rw [List.getElem?_set_ne (Ne.symm hj)] at q3
        rw [List.getElem?_set_ne (Ne.symm hk)] at q4
        exact R.ap j k d1 e1 b hjk q1' q2' q3 q4
/-- an owned object is changed -/
theorem Rep.wrO (R : Rep W K G H σ S) {i : Nat} {a : Addr} {d d' : D} {u : HO} (e : getS S.ρ i = some (.o d)) (ei : σ[i]? = some (some (.ref a))) (f : Frsh W G a) (o : Own K G (upd H a u) a d') :
    Rep W K G (upd H a u) σ ⟨setS S.ρ i (some (.o d')), S.dr⟩ := by
  refine ⟨fun b v q => ?_, R.bg, fun b v q => ?_, R.nw, by rw [setS_len]; exact R.len, fun j s q => ?_, fun j k d1 e1 b hjk q1 q2 q3 q4 => ?_, W.st _ _ _ R.dk fun b m => upd_ne fun q => f.d (q ▸ m)⟩
  · rw [upd_ne (ne_of_none q f.g)]; exact R.gh b v q
  · rw [upd_ne (ne_of_none q f.f)]; exact R.fr b v q
  · rcases getS_setS q with ⟨rfl, q, hl⟩ | ⟨hj, q⟩
    · cases q
      exact ⟨_, ei, a, rfl, f, o⟩
    · obtain ⟨v', e1, ok⟩ := R.sl j s q
      refine ⟨v', e1, ?_⟩
      cases s with
      | v _ => exact ok
      | o d2 =>
        obtain ⟨b, rfl, f', o'⟩ := ok
        have ne : b ≠ a := fun z => R.ap i j d d2 a (Ne.symm hj) e q ei (z ▸ e1)
        exact ⟨b, rfl, f', o'.up (Same.refl _) (upd_ne ne)⟩
  · have old : ∀ {j : Nat} {d1 : D}, getS (setS S.ρ i (some (.o d'))) j = some (.o d1) → ∃ d2, getS S.ρ j = some (.o d2) := fun {j d1} q => by
      rcases getS_setS q with ⟨rfl, q, hl⟩ | ⟨hj, q⟩
      · exact ⟨_, e⟩
      · exact ⟨_, q⟩
    obtain ⟨d2, q1⟩ := old q1
    obtain ⟨d3, q2⟩ := old q2
    exact R.ap j k d2 d3 b hjk q1 q2 q3 q4
end
end Dl
namespace Dl
open PySem PySem.Spec PyProof.Rows L2 Sw
/-! ### readings over data -/
/-- A if x is True, B if it is False -/
def onB (x : D) (A B : Prop) : Prop := match x with
  | .bl true => A
  | .bl false => B
  | _ => False
def onT (b : Bool) (A B : Prop) : Prop := match b with
  | true => A
  | false => B
theorem onB_of {b : Bool} {A B : Prop} (h1 : b = true → A) (h2 : b = false → B) : onB (.bl b) A B := by
  cases b
  · exact h2 rfl
  · exact h1 rfl
theorem onT_of {b : Bool} {A B : Prop} (h1 : b = true → A) (h2 : b = false → B) : onT b A B := by
  cases b
  · exact h2 rfl
  · exact h1 rfl
/-- the test's answer is known -/
theorem onB_t {b : Bool} {A B : Prop} (e : b = true) (h : A) : onB (.bl b) A B := by subst e; exact h
theorem onB_f {b : Bool} {A B : Prop} (e : b = false) (h : B) : onB (.bl b) A B := by subst e; exact h
theorem onT_t {b : Bool} {A B : Prop} (e : b = true) (h : A) : onT b A B := by subst e; exact h
theorem onT_f {b : Bool} {A B : Prop} (e : b = false) (h : B) : onT b A B := by subst e; exact h
/-- x and y, as a bool -/
theorem onB_and {a b : Bool} {Q : D → Int → Prop} {n : Int} (h : Q (.bl (a && b)) n) : onB (.bl a) (Q (.bl b) n) (Q (.bl false) n) := by cases a <;> exact h
theorem onB_or {a b : Bool} {Q : D → Int → Prop} {n : Int} (h : Q (.bl (a || b)) n) : onB (.bl a) (Q (.bl true) n) (Q (.bl b) n) := by cases a <;> exact h
theorem onB_andS {a b : Bool} {P : D → Ds → Prop} {S : Ds} (h : P (.bl (a && b)) S) : onB (.bl a) (P (.bl b) S) (P (.bl false) S) := by cases a <;> exact h
theorem onB_orS {a b : Bool} {P : D → Ds → Prop} {S : Ds} (h : P (.bl (a || b)) S) : onB (.bl a) (P (.bl true) S) (P (.bl b) S) := by cases a <;> exact h
abbrev DT := Ds → (D → Ds → Prop) → Prop
abbrev DTT := Ds → (Bool → Ds → Prop) → Prop
abbrev DTA := Ds → (List D → Ds → Prop) → Prop
def lift {kk : Dek} (W : Wd kk) (K : PySem.W.Frag) (t : DT) : TE := fun σ H Q => ∃ G S P, Rep W K G H σ S ∧ t S P ∧ ∀ d S', P d S' → ∀ v H' G', Same G G' → Rep W K G' H' σ S' → Dv K G' v d → Q v H'
def liftT {kk : Dek} (W : Wd kk) (K : PySem.W.Frag) (t : DTT) : TT := fun σ H Q => ∃ G S P, Rep W K G H σ S ∧ t S P ∧ ∀ b S', P b S' → ∀ H' G', Same G G' → Rep W K G' H' σ S' → Q b H'
def liftA {kk : Dek} (W : Wd kk) (K : PySem.W.Frag) (t : DTA) : TA := fun σ H Q => ∃ G S P, Rep W K G H σ S ∧ t S P ∧ ∀ ds S', P ds S' → ∀ vs H' G', Same G G' → Rep W K G' H' σ S' → DvAll K G' vs ds → Q vs H'
def DE {kk : Dek} (X : Cx) (W : Wd kk) (e : Expr) (t : DT) : Prop := PE X e (lift W X.K t)
def DTe {kk : Dek} (X : Cx) (W : Wd kk) (e : Expr) (t : DTT) : Prop := PT X e (liftT W X.K t)
def DTw {kk : Dek} (X : Cx) (W : Wd kk) (e : Expr) (t : DTT) : Prop := PW X e (liftT W X.K t)
def DA {kk : Dek} (X : Cx) (W : Wd kk) (es : List Expr) (t : DTA) : Prop := PA X es (liftA W X.K t)
theorem pe_imp {X : Cx} {e : Expr} {t t' : TE} (h : PE X e t) (i : ∀ σ H Q, t' σ H Q → t σ H Q) : PE X e t' := ⟨fun pins s σ H Q I q => h.run pins s σ H Q I (i _ _ _ q)⟩
theorem pt_imp {X : Cx} {e : Expr} {t t' : TT} (h : PT X e t) (i : ∀ σ H Q, t' σ H Q → t σ H Q) : PT X e t' := ⟨fun pins s σ H Q I q => h.run pins s σ H Q I (i _ _ _ q)⟩
theorem pw_imp {X : Cx} {e : Expr} {t t' : TT} (h : PW X e t) (i : ∀ σ H Q, t' σ H Q → t σ H Q) : PW X e t' := ⟨fun wh pins s σ H Q I q => h.run wh pins s σ H Q I (i _ _ _ q)⟩
theorem pa_imp {X : Cx} {e : List Expr} {t t' : TA} (h : PA X e t) (i : ∀ σ H Q, t' σ H Q → t σ H Q) : PA X e t' := ⟨fun po pins s σ H Q I q => h.run po pins s σ H Q I (i _ _ _ q)⟩
section
variable {X : Cx} {kk : Dek} {W : Wd kk} {a b c e : Expr} {es : List Expr} {ta tb tc : DT} {pos : Pos}
/-! ### names, constants -/
def dVar (i : Nat) : DT := fun S P => match getS S.ρ i with
  | some (.v d) => P d S
  | some (.o d) => P d ⟨setS S.ρ i (some (.v d)), S.dr⟩
  | none => False
def dC (d : D) : DT := fun S P => P d S
theorem de_var {i : Nat} {x : Str} (hN : X.N[i]? = some x) (hv : Vis X.env.scope x) (hd : (x == ("__debug__" : Str)) = false := by decide) (hcd : (x == ("__classdict__" : Str)) = false := by decide) : DE X W (.Name x pos) (dVar i) := by
  refine pe_imp (pe_var hN hv hd hcd) fun σ H Q ⟨G, S, P, R, h, q⟩ => ?_
  unfold dVar at h
  cases e : getS S.ρ i with
  | none => rw [e] at h; exact h.elim
  | some s =>
    rw [e] at h
    obtain ⟨v, ev, ok⟩ := R.sl i s e
    cases s with
    | v d => exact ⟨v, ev, q d S h v H G (Same.refl _) R ok⟩
    | o d =>
      obtain ⟨a, rfl, f, o⟩ := ok
      obtain ⟨u, hu, dv, R'⟩ := R.frz e ev f o
      exact ⟨_, ev, q d _ h _ H _ (same_upd f.g) R' dv⟩
theorem de_c {v : V} {d : D} (h : PE X e (tC v)) (hd : ∀ G, Dv X.K G v d) : DE X W e (dC d) :=
  pe_imp h fun σ H Q ⟨G, S, P, R, p, q⟩ => q d S p v H G (Same.refl _) R (hd G)
theorem de_int {i : Int} {j} : DE X W (.Constant (.int i) j pos) (dC (.int i)) := de_c pe_int fun _ => .int i
theorem de_bl {b j} : DE X W (.Constant (.bool b) j pos) (dC (.bl b)) := de_c pe_bl fun _ => .bl b
theorem de_non {j} : DE X W (.Constant .none j pos) (dC .non) := de_c pe_non fun _ => .non
theorem de_str {x j} : DE X W (.Constant (.str x) j pos) (dC (.str x)) := de_c pe_str fun _ => .str x
/-- a built-in class, a class or a def of the module, as a value -/
theorem de_at {v : V} (h : PE X e (tC v)) : DE X W e (dC (.at v)) := de_c h fun _ => .at v
/-! ### operators by values -/
def DOp {kk : Dek} (X : Cx) (W : Wd kk) (f : Value → Value → Sem Value) (g : D → D → (D → Prop) → Prop) : Prop := ∃ r : R2, OpR X f r ∧ ∀ (G H : Hp) (σ : L2.St) (S : Ds) (v w : V) (x y : D) (P : D → Prop) (Q : VK), Rep W X.K G H σ S → Dv X.K G v x → Dv X.K G w y → g x y P →
  (∀ d, P d → ∀ u H' G', Same G G' → Rep W X.K G' H' σ S → Dv X.K G' u d → Q u H') → r v w H Q
def dBin (g : D → D → (D → Prop) → Prop) (ta tb : DT) : DT := fun S P => ta S fun x S1 => tb S1 fun y S2 => g x y fun d => P d S2
theorem DOp.or {f : Value → Value → Sem Value} {g g' : D → D → (D → Prop) → Prop} (h : DOp X W f g) (h' : DOp X W f g') : DOp X W f (fun x y P => g x y P ∨ g' x y P) := by
  obtain ⟨r, o, k⟩ := h
  obtain ⟨r', o', k'⟩ := h'
  refine ⟨_, o.or o', fun G H σ S v w x y P Q R hv hw hg hq => ?_⟩
  rcases hg with hg | hg
  · exact .inl (k G H σ S v w x y P Q R hv hw hg hq)
  · exact .inr (k' G H σ S v w x y P Q R hv hw hg hq)
theorem DOp.imp {f : Value → Value → Sem Value} {g g' : D → D → (D → Prop) → Prop} (h : DOp X W f g) (i : ∀ x y P, g' x y P → g x y P) : DOp X W f g' := by
  obtain ⟨r, o, k⟩ := h
  exact ⟨r, o, fun G H σ S v w x y P Q R hv hw hg hq => k G H σ S v w x y P Q R hv hw (i _ _ _ hg) hq⟩
theorem lift_op {r : R2} {g : D → D → (D → Prop) → Prop} (k : ∀ (G H : Hp) (σ : L2.St) (S : Ds) (v w : V) (x y : D) (P : D → Prop) (Q : VK), Rep W X.K G H σ S → Dv X.K G v x → Dv X.K G w y → g x y P →
    (∀ d, P d → ∀ u H' G', Same G G' → Rep W X.K G' H' σ S → Dv X.K G' u d → Q u H') → r v w H Q) (σ : L2.St) (H : Hp) (Q : VK) : lift W X.K (dBin g ta tb) σ H Q → tOp r (lift W X.K ta) (lift W X.K tb) σ H Q := by
  rintro ⟨G, S, P, R, h, q⟩
  refine ⟨G, S, _, R, h, fun x S1 h1 v H1 G1 s1 R1 d1 => ?_⟩
  refine ⟨G1, S1, _, R1, h1, fun y S2 h2 w H2 G2 s2 R2 d2 => ?_⟩
  exact k G2 H2 σ S2 v w x y _ Q R2 (Dv.up s2 _ _ d1) d2 h2 fun d p u H' G' s' R' dv => q d S2 p u H' G' ((s1.trans s2).trans s') R' dv
theorem de_op {op : Operator} {g : D → D → (D → Prop) → Prop} (ho : DOp X W (binaryOp op) g) (ha : DE X W a ta) (hb : DE X W b tb) : DE X W (.BinOp a op b pos) (dBin g ta tb) := by
  obtain ⟨r, o, k⟩ := ho
  exact pe_imp (pe_op o ha hb) (lift_op k)
theorem de_cmp {op : CmpOp} {g : D → D → (D → Prop) → Prop} (ho : DOp X W (compareOp op) g) (ha : DE X W a ta) (hb : DE X W b tb) (hm : behindInMarks op b = false := by first | exact nobehind _ (by decide) (by decide) | rfl) : DE X W (.Compare a [op] [b] pos) (dBin g ta tb) := by
  obtain ⟨r, o, k⟩ := ho
  exact pe_imp (pe_cmpR o ha hb hm) (lift_op k)
/-! ### bools -/
def dBool (t : DT) : DTT := fun S P => t S fun x S1 => match x with
  | .bl b => P b S1
  | _ => False
theorem lift_bool {t : DT} (σ : L2.St) (H : Hp) (Q : Bool → Hp → Prop) : liftT W X.K (dBool t) σ H Q → lift W X.K t σ H (fun x H1 => ∃ c, x = .bl c ∧ Q c H1) := by
  rintro ⟨G, S, P, R, h, q⟩
  refine ⟨G, S, _, R, h, fun x S1 h1 v H1 G1 s1 R1 d1 => ?_⟩
  cases x with
  | bl b => cases d1; exact ⟨b, rfl, q b S1 h1 H1 G1 s1 R1⟩
  | _ => exact False.elim h1
theorem dt_cmp {op : CmpOp} {g : D → D → (D → Prop) → Prop} (ho : DOp X W (compareOp op) g) (ha : DE X W a ta) (hb : DE X W b tb) (hm : behindInMarks op b = false := by first | exact nobehind _ (by decide) (by decide) | rfl) : DTe X W (.Compare a [op] [b] pos) (dBool (dBin g ta tb)) := by
  obtain ⟨r, o, k⟩ := ho
  exact pt_imp (pt_cmpR o ha hb hm) fun σ H Q h => lift_op k σ H _ (lift_bool σ H Q h)
theorem dt_val (h : DE X W e ta) (he : ∀ whole, isTrue e X.env whole = (do let v ← whole; standAt e.pos; holding [v] (truthy v)) := by intro _; rfl) : DTe X W e (dBool ta) :=
  pt_imp (pt_val h he) fun σ H Q q => lift_bool σ H Q q
def dNotT (t : DTT) : DTT := fun S P => t S fun b S1 => P (!b) S1
theorem dt_not {t : DTT} (h : DTe X W a t) : DTe X W (.UnaryOp .Not a pos) (dNotT t) := by
  refine pt_imp (pt_not h) fun σ H Q ⟨G, S, P, R, p, q⟩ => ?_
  exact ⟨G, S, _, R, p, fun b S1 p1 H1 G1 s1 R1 => q _ S1 p1 H1 G1 s1 R1⟩
def dAndT (t u : DTT) : DTT := fun S P => t S fun b S1 => onT b (u S1 P) (P false S1)
def dOrT (t u : DTT) : DTT := fun S P => t S fun b S1 => onT b (P true S1) (u S1 P)
theorem dw_and1 {t : DTT} (h : DTe X W a t) : DTw X W (.BoolOp .And [a] pos) t := pw_and1 h
theorem dw_or1 {t : DTT} (h : DTe X W a t) : DTw X W (.BoolOp .Or [a] pos) t := pw_or1 h
theorem dw_and {t u : DTT} {rest : List Expr} (h : DTe X W a t) (k : DTw X W (.BoolOp .And (b :: rest) pos) u) : DTw X W (.BoolOp .And (a :: b :: rest) pos) (dAndT t u) := by
  refine pw_imp (pw_and h k) fun σ H Q ⟨G, S, P, R, p, q⟩ => ?_
  refine ⟨G, S, _, R, p, fun c S1 p1 H1 G1 s1 R1 => ?_⟩
  cases c with
  | true => rw [if_pos rfl]; exact ⟨G1, S1, P, R1, p1, fun c2 S2 p2 H2 G2 s2 R2 => q c2 S2 p2 H2 G2 (s1.trans s2) R2⟩
  | false => rw [if_neg Bool.false_ne_true]; exact q false S1 p1 H1 G1 s1 R1
theorem dw_or {t u : DTT} {rest : List Expr} (h : DTe X W a t) (k : DTw X W (.BoolOp .Or (b :: rest) pos) u) : DTw X W (.BoolOp .Or (a :: b :: rest) pos) (dOrT t u) := by
  refine pw_imp (pw_or h k) fun σ H Q ⟨G, S, P, R, p, q⟩ => ?_
  refine ⟨G, S, _, R, p, fun c S1 p1 H1 G1 s1 R1 => ?_⟩
  cases c with
  | false => rw [if_neg Bool.false_ne_true]; exact ⟨G1, S1, P, R1, p1, fun c2 S2 p2 H2 G2 s2 R2 => q c2 S2 p2 H2 G2 (s1.trans s2) R2⟩
  | true => rw [if_pos rfl]; exact q true S1 p1 H1 G1 s1 R1
theorem dt_w {t : DTT} (h : DTw X W a t) : DTe X W a t := PW.pt h
/-- a and b, a or b, as values (the left ones bools) -/
def dAnd (t u : DT) : DT := fun S P => t S fun x S1 => onB x (u S1 P) (P (.bl false) S1)
def dOr (t u : DT) : DT := fun S P => t S fun x S1 => onB x (P (.bl true) S1) (u S1 P)
def dNot (t : DT) : DT := fun S P => t S fun x S1 => match x with
  | .bl b => P (.bl !b) S1
  | _ => False
theorem de_one {op} (h : DE X W a ta) : DE X W (.BoolOp op [a] pos) ta := pe_one h
theorem de_and {rest : List Expr} (ha : DE X W a ta) (hb : DE X W (.BoolOp .And (b :: rest) pos) tb) : DE X W (.BoolOp .And (a :: b :: rest) pos) (dAnd ta tb) := by
  refine pe_imp (pe_and ha hb) fun σ H Q ⟨G, S, P, R, p, q⟩ => ?_
  refine ⟨G, S, _, R, p, fun x S1 p1 v H1 G1 s1 R1 d1 => ?_⟩
  cases x with
  | bl c =>
    cases d1
    refine ⟨c, rfl, ?_⟩
    cases c with
    | true => rw [if_pos rfl]; exact ⟨G1, S1, P, R1, p1, fun c2 S2 p2 v2 H2 G2 s2 R2 => q c2 S2 p2 v2 H2 G2 (s1.trans s2) R2⟩
    | false => rw [if_neg Bool.false_ne_true]; exact q _ S1 p1 _ H1 G1 s1 R1 (.bl false)
  | _ => exact False.elim p1
theorem de_or {rest : List Expr} (ha : DE X W a ta) (hb : DE X W (.BoolOp .Or (b :: rest) pos) tb) : DE X W (.BoolOp .Or (a :: b :: rest) pos) (dOr ta tb) := by
  refine pe_imp (pe_or ha hb) fun σ H Q ⟨G, S, P, R, p, q⟩ => ?_
  refine ⟨G, S, _, R, p, fun x S1 p1 v H1 G1 s1 R1 d1 => ?_⟩
  cases x with
  | bl c =>
    cases d1
    refine ⟨c, rfl, ?_⟩
    cases c with
    | false => rw [if_neg Bool.false_ne_true]; exact ⟨G1, S1, P, R1, p1, fun c2 S2 p2 v2 H2 G2 s2 R2 => q c2 S2 p2 v2 H2 G2 (s1.trans s2) R2⟩
    | true => rw [if_pos rfl]; exact q _ S1 p1 _ H1 G1 s1 R1 (.bl true)
  | _ => exact False.elim p1
theorem de_not (ha : DE X W a ta) : DE X W (.UnaryOp .Not a pos) (dNot ta) := by
  refine pe_imp (pe_not ha) fun σ H Q ⟨G, S, P, R, p, q⟩ => ?_
  refine ⟨G, S, _, R, p, fun x S1 p1 v H1 G1 s1 R1 d1 => ?_⟩
  cases x with
  | bl c => cases d1; exact ⟨c, rfl, q _ S1 p1 _ H1 G1 s1 R1 (.bl _)⟩
  | _ => exact False.elim p1
def dIf (t : DTT) (ta tb : DT) : DT := fun S P => t S fun b S1 => onT b (ta S1 P) (tb S1 P)
theorem de_if {t : DTT} (hc : DTe X W c t) (ha : DE X W a ta) (hb : DE X W b tb) : DE X W (.IfExp c a b pos) (dIf t ta tb) := by
  refine pe_imp (pe_ifExp hc ha hb) fun σ H Q ⟨G, S, P, R, p, q⟩ => ?_
  refine ⟨G, S, _, R, p, fun x S1 p1 H1 G1 s1 R1 => ?_⟩
  cases x with
  | true => rw [if_pos rfl]; exact ⟨G1, S1, P, R1, p1, fun c2 S2 p2 v2 H2 G2 s2 R2 => q c2 S2 p2 v2 H2 G2 (s1.trans s2) R2⟩
  | false => rw [if_neg Bool.false_ne_true]; exact ⟨G1, S1, P, R1, p1, fun c2 S2 p2 v2 H2 G2 s2 R2 => q c2 S2 p2 v2 H2 G2 (s1.trans s2) R2⟩
/-- a <= b <= c -/
def dChain (g g' : D → D → (D → Prop) → Prop) (ta tb tc : DT) : DT := fun S P => ta S fun x S1 => tb S1 fun y S2 => g x y fun z => onB z (tc S2 fun w S3 => g' y w fun d => P d S3) (P (.bl false) S2)
/-- an operator whose answer is a bool -/
def DOpB {kk : Dek} (X : Cx) (W : Wd kk) (f : Value → Value → Sem Value) (g : D → D → (D → Prop) → Prop) : Prop := ∃ r : R2, OpR X f r ∧ ∀ (G H : Hp) (σ : L2.St) (S : Ds) (v w : V) (x y : D) (P : D → Prop) (Q : VK), Rep W X.K G H σ S → Dv X.K G v x → Dv X.K G w y → g x y P →
  (∀ b, P (.bl b) → Q (.bl b) H) → r v w H Q
theorem DOpB.op {f : Value → Value → Sem Value} {g : D → D → (D → Prop) → Prop} (h : DOpB X W f g) : DOp X W f g := by
  obtain ⟨r, o, k⟩ := h
  exact ⟨r, o, fun G H σ S v w x y P Q R hv hw hg hq => k G H σ S v w x y P Q R hv hw hg fun b p => hq _ p _ _ _ (Same.refl _) R (.bl b)⟩
theorem DOpB.or {f : Value → Value → Sem Value} {g g' : D → D → (D → Prop) → Prop} (h : DOpB X W f g) (h' : DOpB X W f g') : DOpB X W f (fun x y P => g x y P ∨ g' x y P) := by
  obtain ⟨r, o, k⟩ := h
  obtain ⟨r', o', k'⟩ := h'
  refine ⟨_, o.or o', fun G H σ S v w x y P Q R hv hw hg hq => ?_⟩
  rcases hg with hg | hg
  · exact .inl (k G H σ S v w x y P Q R hv hw hg hq)
  · exact .inr (k' G H σ S v w x y P Q R hv hw hg hq)
theorem DOpB.imp {f : Value → Value → Sem Value} {g g' : D → D → (D → Prop) → Prop} (h : DOpB X W f g) (i : ∀ x y P, g' x y P → g x y P) : DOpB X W f g' := by
  obtain ⟨r, o, k⟩ := h
  exact ⟨r, o, fun G H σ S v w x y P Q R hv hw hg hq => k G H σ S v w x y P Q R hv hw (i _ _ _ hg) hq⟩
theorem lift_chain {r r' : R2} {g g' : D → D → (D → Prop) → Prop} (k : ∀ (G H : Hp) (σ : L2.St) (S : Ds) (v w : V) (x y : D) (P : D → Prop) (Q : VK), Rep W X.K G H σ S → Dv X.K G v x → Dv X.K G w y → g x y P → (∀ b, P (.bl b) → Q (.bl b) H) → r v w H Q)
    (k' : ∀ (G H : Hp) (σ : L2.St) (S : Ds) (v w : V) (x y : D) (P : D → Prop) (Q : VK), Rep W X.K G H σ S → Dv X.K G v x → Dv X.K G w y → g' x y P → (∀ b, P (.bl b) → Q (.bl b) H) → r' v w H Q) (σ : L2.St) (H : Hp) (Q : VK) :
    lift W X.K (dChain g g' ta tb tc) σ H Q → tChain r r' (lift W X.K ta) (lift W X.K tb) (lift W X.K tc) σ H Q := by
  rintro ⟨G, S, P, R, h, q⟩
  refine ⟨G, S, _, R, h, fun x S1 h1 v H1 G1 s1 R1 d1 => ?_⟩
  refine ⟨G1, S1, _, R1, h1, fun y S2 h2 w H2 G2 s2 R2 d2 => ?_⟩
  refine k G2 H2 σ S2 v w x y _ _ R2 (Dv.up s2 _ _ d1) d2 h2 fun b p => ⟨b, rfl, ?_⟩
  cases b with
  | true =>
    rw [if_pos rfl]
    refine ⟨G2, S2, _, R2, p, fun z S3 h3 u H3 G3 s3 R3 d3 => ?_⟩
    exact k' G3 H3 σ S3 w u y z _ _ R3 (Dv.up s3 _ _ d2) d3 h3 fun b p => q _ S3 p _ H3 G3 ((s1.trans s2).trans s3) R3 (.bl b)
  | false => rw [if_neg Bool.false_ne_true]; exact q _ S2 p _ H2 G2 (s1.trans s2) R2 (.bl false)
theorem de_chain {op op' : CmpOp} {g g' : D → D → (D → Prop) → Prop} (ho : DOpB X W (compareOp op) g) (ho' : DOpB X W (compareOp op') g') (ha : DE X W a ta) (hb : DE X W b tb) (hc : DE X W c tc)
    (hm : lastMarks [op, op'] [b, c] = false := by with_unfolding_all rfl) : DE X W (.Compare a [op, op'] [b, c] pos) (dChain g g' ta tb tc) := by
  obtain ⟨r, o, k⟩ := ho
  obtain ⟨r', o', k'⟩ := ho'
  exact pe_imp (pe_chain o o' ha hb hc hm) (lift_chain k k')
/-! ### argument lists, displays -/
def dNil : DTA := fun S P => P [] S
def dCons (t : DT) (u : DTA) : DTA := fun S P => t S fun x S1 => u S1 fun xs S2 => P (x :: xs) S2
theorem da_nil : DA X W [] dNil := pa_imp pa_nil fun σ H Q ⟨G, S, P, R, p, q⟩ => q [] S p [] H G (Same.refl _) R .nil
theorem da_cons {t : DT} {u : DTA} (he : DE X W e t) (hr : DA X W es u) (hs : starEach (e :: es) X.env = (false, eval e X.env) :: starEach es X.env := by rfl) : DA X W (e :: es) (dCons t u) := by
  refine pa_imp (pa_cons he hr hs) fun σ H Q ⟨G, S, P, R, p, q⟩ => ?_
  refine ⟨G, S, _, R, p, fun x S1 p1 v H1 G1 s1 R1 d1 => ?_⟩
  exact ⟨G1, S1, _, R1, p1, fun xs S2 p2 vs H2 G2 s2 R2 d2 => q _ S2 p2 _ H2 G2 (s1.trans s2) R2 (.cons (Dv.up s2 _ _ d1) d2)⟩
def dTup (t : DTA) : DT := fun S P => t S fun ds S1 => ds.length ≤ sizeLine ∧ P (.tup ds) S1
theorem de_tup {t : DTA} {x1} (h : DA X W es t) : DE X W (.Tuple es x1 pos) (dTup t) := by
  refine pe_imp (pe_tup h) fun σ H Q ⟨G, S, P, R, p, q⟩ => ?_
  refine ⟨G, S, _, R, p, fun ds S1 ⟨hz, p1⟩ vs H1 G1 s1 R1 d1 => ⟨by rw [dva_len d1]; exact hz, fun p hp => ?_⟩⟩
  have gp := R1.gh.free hp
  exact q _ S1 p1 _ _ _ (s1.trans (same_upd gp)) (R1.new hp) (.tup upd_same (DvAll.up (same_upd gp) _ _ d1))
/-! ### fresh objects -/
/-- a new object that nobody else knows -/
def liftO {kk : Dek} (W : Wd kk) (K : PySem.W.Frag) (t : DT) : TE := fun σ H Q => ∃ G S P, Rep W K G H σ S ∧ t S P ∧ ∀ d S', P d S' → ∀ a H' G', Same G G' → Rep W K G' H' σ S' → Frsh W G' a → Own K G' H' a d → NoOwn σ S' a → Q (.ref a) H'
def DO {kk : Dek} (X : Cx) (W : Wd kk) (e : Expr) (t : DT) : Prop := PE X e (liftO W X.K t)
theorem Rep.frzN {K : PySem.W.Frag} {G H : Hp} {σ : L2.St} {S : Ds} {a : Addr} {d : D} (R : Rep W K G H σ S) (f : Frsh W G a) (o : Own K G H a d) (no : NoOwn σ S a) : ∃ u, Dv K (upd G a u) (.ref a) d ∧ Rep W K (upd G a u) H σ S := by
  obtain ⟨u, hu, dv⟩ := o.frz f.g
  have g := same_upd (o := u) f.g
  refine ⟨u, dv, ⟨fun b v q => ?_, R.bg.trans g, R.fr, fun b v q => ?_, R.len, fun j s q => ?_, R.ap, R.dk⟩⟩
  · by_cases z : b = a
    · subst z; rw [upd_same] at q; cases q; exact hu
    · rw [upd_ne z] at q; exact R.gh b v q
  · by_cases z : b = a
    · subst z; exact .inr ⟨f.f, f.d⟩
    · rw [upd_ne z] at q; exact R.nw b v q
  · obtain ⟨v, e1, ok⟩ := R.sl j s q
    refine ⟨v, e1, ?_⟩
    cases s with
    | v d' => exact Dv.up g _ _ ok
    | o d' =>
      obtain ⟨b, rfl, f', o'⟩ := ok
      have ne : b ≠ a := fun z => no j d' q (z ▸ e1)
      exact ⟨b, rfl, ⟨by rw [upd_ne ne]; exact f'.g, f'.f, f'.d⟩, o'.up g rfl⟩
theorem DO.de {t : DT} (h : DO X W e t) : DE X W e t := by
  refine pe_imp h fun σ H Q ⟨G, S, P, R, p, q⟩ => ⟨G, S, P, R, p, fun d S1 p1 a H1 G1 s1 R1 f o no => ?_⟩
  obtain ⟨u, dv, R2⟩ := R1.frzN f o no
  exact q d S1 p1 _ H1 _ (s1.trans (same_upd f.g)) R2 dv
theorem noOwn_new {K : PySem.W.Frag} {G H : Hp} {σ : L2.St} {S : Ds} {p : Addr} (R : Rep W K G H σ S) (hp : H p = none) : NoOwn σ S p := fun i d e z => by
  obtain ⟨v, ev, a, rfl, f, o⟩ := R.sl i _ e
  rw [ev] at z
  cases z
  obtain ⟨u, hu⟩ := o.ex
  rw [hp] at hu; cases hu
/-- a new object at p: owned -/
theorem Rep.fresh {K : PySem.W.Frag} {G H : Hp} {σ : L2.St} {S : Ds} {p : Addr} {u : HO} (R : Rep W K G H σ S) (hp : H p = none) : Rep W K G (upd H p u) σ S ∧ Frsh W G p ∧ NoOwn σ S p :=
  ⟨(R.newO (o := u) hp).1, (R.newO (o := u) hp).2, noOwn_new R hp⟩
def dLst (t : DTA) : DT := fun S P => t S fun ds S1 => ds.length ≤ sizeLine ∧ P (.lst ds) S1
theorem do_lst {t : DTA} (h : DA X W es t) : DO X W (.List es pos) (dLst t) := by
  refine pe_imp (pe_lst h) fun σ H Q ⟨G, S, P, R, p, q⟩ => ?_
  refine ⟨G, S, _, R, p, fun ds S1 ⟨hz, p1⟩ vs H1 G1 s1 R1 d1 => ⟨by rw [dva_len d1]; exact hz, fun p hp => ?_⟩⟩
  obtain ⟨R2, f, no⟩ := R1.fresh (u := .lst vs) hp
  exact q _ S1 p1 p _ G1 s1 R2 f ⟨vs, upd_same, d1⟩ no
end
end Dl
namespace Dl
open PySem PySem.Spec PyProof.Rows L2 Sw
/-! ### statements -/
structure DEnds where
  nx : Ds → Prop
  rt : D → Ds → Prop
  bk : Ds → Prop := fun _ => False
  ct : Ds → Prop := fun _ => False
abbrev DST := DEnds → Ds → Prop
structure EndsOk {kk : Dek} (W : Wd kk) (K : PySem.W.Frag) (G0 : Hp) (E : DEnds) (N : Ends) : Prop where
  nx : ∀ S σ H G, Same G0 G → E.nx S → Rep W K G H σ S → N.nx σ H
  rt : ∀ d S σ H G v, Same G0 G → E.rt d S → Rep W K G H σ S → Dv K G v d → N.rt v H
  bk : ∀ S σ H G, Same G0 G → E.bk S → Rep W K G H σ S → N.bk σ H
  ct : ∀ S σ H G, Same G0 G → E.ct S → Rep W K G H σ S → N.ct σ H
theorem EndsOk.up {kk : Dek} {W : Wd kk} {K : PySem.W.Frag} {G0 G1 : Hp} {E : DEnds} {N : Ends} (s : Same G0 G1) (k : EndsOk W K G0 E N) : EndsOk W K G1 E N :=
  ⟨fun S σ H G z => k.nx S σ H G (s.trans z), fun d S σ H G v z => k.rt d S σ H G v (s.trans z), fun S σ H G z => k.bk S σ H G (s.trans z), fun S σ H G z => k.ct S σ H G (s.trans z)⟩
def liftS {kk : Dek} (W : Wd kk) (K : PySem.W.Frag) (t : DST) : TS := fun N σ H => ∃ G S E, Rep W K G H σ S ∧ t E S ∧ EndsOk W K G E N
def DS {kk : Dek} (X : Cx) (W : Wd kk) (st : Stmt) (t : DST) : Prop := PS X st (liftS W X.K t)
def DSs {kk : Dek} (X : Cx) (W : Wd kk) (st : List Stmt) (t : DST) : Prop := PSs X st (liftS W X.K t)
theorem ps_imp {X : Cx} {e : Stmt} {t t' : TS} (h : PS X e t) (i : ∀ N σ H, t' N σ H → t N σ H) : PS X e t' := ⟨fun pins s σ H N I q => h.run pins s σ H N I (i _ _ _ q)⟩
theorem pss_imp {X : Cx} {e : List Stmt} {t t' : TS} (h : PSs X e t) (i : ∀ N σ H, t' N σ H → t N σ H) : PSs X e t' := ⟨fun pins s σ H N I q => h.run pins s σ H N I (i _ _ _ q)⟩
section
variable {X : Cx} {kk : Dek} {W : Wd kk} {a b c e : Expr} {es : List Expr} {ta tb tc te : DT} {pos : Pos} {st : Stmt} {rest : List Stmt} {t u : DST}
def dNext : DST := fun E S => E.nx S
def dSeq (t u : DST) : DST := fun E S => t { E with nx := u E } S
theorem dss_nil : DSs X W [] dNext := pss_imp pss_nil fun N σ H ⟨G, S, E, R, h, ok⟩ => ok.nx S σ H G (Same.refl _) h R
theorem dss_cons (h1 : DS X W st t) (h2 : DSs X W rest u) : DSs X W (st :: rest) (dSeq t u) := by
  refine pss_imp (pss_cons h1 h2) fun N σ H ⟨G, S, E, R, h, ok⟩ => ?_
  exact ⟨G, S, _, R, h, fun S' σ' H' G' s n R' => ⟨G', S', E, R', n, ok.up s⟩, ok.rt, ok.bk, ok.ct⟩
theorem dss_one (h1 : DS X W st t) : DSs X W [st] t := pss_one h1
theorem ds_pass : DS X W (.Pass pos) dNext := ps_imp ps_pass fun N σ H ⟨G, S, E, R, h, ok⟩ => ok.nx S σ H G (Same.refl _) h R
def dBreak : DST := fun E S => E.bk S
def dCont : DST := fun E S => E.ct S
theorem ds_break : DS X W (.Break pos) dBreak := ps_imp ps_break fun N σ H ⟨G, S, E, R, h, ok⟩ => ok.bk S σ H G (Same.refl _) h R
theorem ds_continue : DS X W (.Continue pos) dCont := ps_imp ps_continue fun N σ H ⟨G, S, E, R, h, ok⟩ => ok.ct S σ H G (Same.refl _) h R
def dNever : DST := fun _ _ => False
theorem ds_never : DS X W st dNever := ps_imp ps_never fun N σ H ⟨G, S, E, R, h, ok⟩ => h.elim
theorem dss_never {sts : List Stmt} : DSs X W sts dNever := pss_imp pss_never fun N σ H ⟨G, S, E, R, h, ok⟩ => h.elim
def dRet (te : DT) : DST := fun E S => te S E.rt
theorem ds_ret (he : DE X W e te) : DS X W (.Return (some e) pos) (dRet te) := by
  refine ps_imp (ps_ret he) fun N σ H ⟨G, S, E, R, h, ok⟩ => ?_
  exact ⟨G, S, _, R, h, fun d S' r v H' G' s R' dv => ok.rt d S' σ H' G' v s r R' dv⟩
def dRetN : DST := fun E S => E.rt .non S
theorem ds_retN : DS X W (.Return none pos) dRetN := ps_imp ps_retN fun N σ H ⟨G, S, E, R, h, ok⟩ => ok.rt .non S σ H G _ (Same.refl _) h R .non
def dDrop (te : DT) : DST := fun E S => te S fun _ S' => E.nx S'
theorem ds_expr (he : DE X W e te) (hs : swapsWith e none pos.line X.env = pure false := by rfl) : DS X W (.Expr e pos) (dDrop te) := by
  refine ps_imp (ps_expr he hs) fun N σ H ⟨G, S, E, R, h, ok⟩ => ?_
  exact ⟨G, S, _, R, h, fun d S' r v H' G' s R' dv => ok.nx S' σ H' G' s r R'⟩
def dIfS (c : DTT) (t u : DST) : DST := fun E S => c S fun b S1 => onT b (t E S1) (u E S1)
theorem ds_if {sa sb : List Stmt} {tc : DTT} (hc : DTe X W c tc) (ha : DSs X W sa t) (hb : DSs X W sb u) : DS X W (.If c sa sb pos) (dIfS tc t u) := by
  refine ps_imp (ps_if hc ha hb) fun N σ H ⟨G, S, E, R, h, ok⟩ => ?_
  refine ⟨G, S, _, R, h, fun b S1 h1 H1 G1 s1 R1 => ?_⟩
  cases b with
  | true => rw [if_pos rfl]; exact ⟨G1, S1, E, R1, h1, ok.up s1⟩
  | false => rw [if_neg Bool.false_ne_true]; exact ⟨G1, S1, E, R1, h1, ok.up s1⟩
/-! ### targets -/
abbrev DGT := D → Ds → (Ds → Prop) → Prop
abbrev DGTs := List D → Ds → (Ds → Prop) → Prop
/-- other slots than these stay -/
def Off (is : List Nat) (σ σ' : L2.St) : Prop := σ'.length = σ.length ∧ ∀ i, i ∉ is → σ'[i]? = σ[i]?
theorem Off.refl (σ : L2.St) : Off [] σ σ := ⟨rfl, fun _ _ => rfl⟩
theorem Off.trans {is js : List Nat} {σ σ1 σ2 : L2.St} (a : Off is σ σ1) (b : Off js σ1 σ2) : Off (is ++ js) σ σ2 := ⟨b.1.trans a.1, fun i h => by
  rw [List.mem_append, not_or] at h
  exact (b.2 i h.2).trans (a.2 i h.1)⟩
def liftG {kk : Dek} (W : Wd kk) (K : PySem.W.Frag) (is : List Nat) (t : DGT) : TG := fun v σ H Q => ∃ G S d P, Rep W K G H σ S ∧ Dv K G v d ∧ t d S P ∧ ∀ S', P S' → ∀ σ' H' G', Same G G' → Rep W K G' H' σ' S' → Off is σ σ' → Q σ' H'
def liftGs {kk : Dek} (W : Wd kk) (K : PySem.W.Frag) (is : List Nat) (t : DGTs) : TGs := fun vs σ H Q => ∃ G S ds P, Rep W K G H σ S ∧ DvAll K G vs ds ∧ t ds S P ∧ ∀ S', P S' → ∀ σ' H' G', Same G G' → Rep W K G' H' σ' S' → Off is σ σ' → Q σ' H'
def DG {kk : Dek} (X : Cx) (W : Wd kk) (tg : Expr) (is : List Nat) (t : DGT) : Prop := PG X tg (liftG W X.K is t)
def DGs {kk : Dek} (X : Cx) (W : Wd kk) (tg : List Expr) (is : List Nat) (t : DGTs) : Prop := PGs X tg (liftGs W X.K is t)
theorem pg_imp {X : Cx} {e : Expr} {t t' : TG} (h : PG X e t) (i : ∀ v σ H Q, t' v σ H Q → t v σ H Q) : PG X e t' := ⟨fun pins s σ H v u Q I r q => h.run pins s σ H v u Q I r (i _ _ _ _ q)⟩
theorem pgs_imp {X : Cx} {e : List Expr} {t t' : TGs} (h : PGs X e t) (i : ∀ v σ H Q, t' v σ H Q → t v σ H Q) : PGs X e t' := ⟨fun pins s σ H v u Q I r q => h.run pins s σ H v u Q I r (i _ _ _ _ q)⟩
def gN (i : Nat) : DGT := fun d S P => P ⟨setS S.ρ i (some (.v d)), S.dr⟩
theorem dg_name {i : Nat} {x : Str} (hN : X.N.Nodup) (hi : X.N[i]? = some x) (hx : Loc X.env.scope x) (hf : X.fn x = true ∨ X.env.scope.names.lookup x = some .local := by first | exact .inl rfl | exact .inr rfl | assumption) : DG X W (.Name x pos) [i] (gN i) :=
  pg_imp (pg_name hN hi hx hf) fun v σ H Q ⟨G, S, d, P, R, dv, h, q⟩ => q _ h _ H G (Same.refl _) (R.setV dv) ⟨by rw [List.length_set], fun j hj => List.getElem?_set_ne (fun e => hj (by simp [e]))⟩
def gsNil : DGTs := fun ds S P => match ds with
  | [] => P S
  | _ => False
def gsCons (t : DGT) (u : DGTs) : DGTs := fun ds S P => match ds with
  | d :: r => t d S fun S1 => u r S1 P
  | [] => False
theorem dgs_nil : DGs X W [] [] gsNil := by
  refine pgs_imp pgs_nil fun vs σ H Q ⟨G, S, ds, P, R, dv, h, q⟩ => ?_
  cases dv with
  | nil => exact ⟨rfl, q S h σ H G (Same.refl _) R (Off.refl _)⟩
  | cons _ _ => exact h.elim
theorem dgs_cons {is js : List Nat} {t : DGT} {u : DGTs} (h1 : DG X W e is t) (h2 : DGs X W es js u)
    (hs : (assignEach (e :: es) X.env).map (·.2) = assign e X.env :: (assignEach es X.env).map (·.2) := by rfl) : DGs X W (e :: es) (is ++ js) (gsCons t u) := by
  refine pgs_imp (pgs_cons h1 h2 hs) fun vs σ H Q ⟨G, S, ds, P, R, dv, h, q⟩ => ?_
  cases dv with
  | nil => exact h.elim
  | cons d1 d2 =>
    refine ⟨_, _, rfl, G, S, _, _, R, d1, h, fun S1 p1 σ1 H1 G1 s1 R1 o1 => ?_⟩
    exact ⟨G1, S1, _, P, R1, DvAll.up s1 _ _ d2, p1, fun S2 p2 σ2 H2 G2 s2 R2 o2 => q S2 p2 σ2 H2 G2 (s1.trans s2) R2 (o1.trans o2)⟩
def gT (n : Nat) (t : DGTs) : DGT := fun d S P => match d with
  | .tup ds => ds.length = n ∧ t ds S P
  | _ => False
theorem dg_tup {is : List Nat} {k : Nat} {t : DGTs} {n : Nat} (hc : X.calm = true) (h : DGs X W es is t)
    (hn : (assignEach es X.env).length = n := by rfl) (hst : (assignEach es X.env).findIdx? (·.1) = none := by rfl) : DG X W (.Tuple es k pos) is (gT n t) := by
  refine pg_imp (pg_tup hc h hn hst) fun v σ H Q ⟨G, S, d, P, R, dv, h, q⟩ => ?_
  cases d with
  | tup ds =>
    cases dv with
    | tup h1 h2 => exact ⟨_, _, rfl, SqT.of (R.gh _ _ h1), (dva_len h2).trans h.1, G, S, ds, P, R, h2, h.2, q⟩
  | _ => exact h.elim
def dAsg (te : DT) (g : DGT) : DST := fun E S => te S fun d S1 => g d S1 E.nx
theorem ds_asg {tg : Expr} {is : List Nat} {g : DGT} (he : DE X W e te) (hg : DG X W tg is g) (hs : swapsWithSole [tg] e pos.line X.env = pure false := by rfl) (hw : swappedStores [tg] e X.env = pure none := by rfl)
    (h1 : (assignEach [tg] X.env).map (·.2) = [assign tg X.env] := by rfl) : DS X W (.Assign [tg] e pos) (dAsg te g) := by
  refine ps_imp (ps_asg he hg hs hw h1) fun N σ H ⟨G, S, E, R, h, ok⟩ => ?_
  refine ⟨G, S, _, R, h, fun d S1 p1 v H1 G1 s1 R1 d1 => ?_⟩
  exact ⟨G1, S1, d, _, R1, d1, p1, fun S2 p2 σ2 H2 G2 s2 R2 _ => ok.nx S2 σ2 H2 G2 (s1.trans s2) p2 R2⟩
theorem ds_set {i : Nat} {x : Str} {pos' : Pos} (hN : X.N.Nodup) (hi : X.N[i]? = some x) (hx : Loc X.env.scope x) (he : DE X W e te) (hs : swapsWith e (some (.Name x pos')) pos.line X.env = pure false := by rfl)
    (hf : X.fn x = true ∨ X.env.scope.names.lookup x = some .local := by first | exact .inl rfl | exact .inr rfl | assumption) : DS X W (.Assign [.Name x pos'] e pos) (dAsg te (gN i)) := by
  refine ps_imp (ps_set hN hi hx he hs hf) fun N σ H ⟨G, S, E, R, h, ok⟩ => ?_
  exact ⟨G, S, _, R, h, fun d S1 p1 v H1 G1 s1 R1 d1 => ok.nx _ _ H1 G1 s1 p1 (R1.setV d1)⟩
/-- name = a new object, which the slot owns -/
def dSetO (te : DT) (i : Nat) : DST := fun E S => te S fun d S1 => E.nx ⟨setS S1.ρ i (some (.o d)), S1.dr⟩
theorem ds_setO {i : Nat} {x : Str} {pos' : Pos} (hN : X.N.Nodup) (hi : X.N[i]? = some x) (hx : Loc X.env.scope x) (he : DO X W e te) (hs : swapsWith e (some (.Name x pos')) pos.line X.env = pure false := by rfl)
    (hf : X.fn x = true ∨ X.env.scope.names.lookup x = some .local := by first | exact .inl rfl | exact .inr rfl | assumption) : DS X W (.Assign [.Name x pos'] e pos) (dSetO te i) := by
  refine ps_imp (ps_set hN hi hx he hs hf) fun N σ H ⟨G, S, E, R, h, ok⟩ => ?_
  exact ⟨G, S, _, R, h, fun d S1 p1 a H1 G1 s1 R1 f o no => ok.nx _ _ H1 G1 s1 p1 (R1.setO f o no)⟩
/-! ### for -/
/-- what is walked: its items -/
abbrev DIT := Ds → (List D → Ds → Prop) → Prop
/-- an item comes: the heap may have grown by it -/
def Comes (kk : Dek) (K : PySem.W.Frag) (G H H' : Hp) (x : V) (d : D) : Prop := ∀ (W : Wd kk) G1 σ1 S1, Same G G1 → Rep W K G1 H σ1 S1 → ∃ G2, Same G1 G2 ∧ Rep W K G2 H' σ1 S1 ∧ Dv K G2 x d
def liftI {kk : Dek} (W : Wd kk) (K : PySem.W.Frag) (t : DIT) : TI := fun σ H R => ∃ G S P, Rep W K G H σ S ∧ t S P ∧ ∀ ds S', P ds S' → ∀ H' G', Same G G' → Rep W K G' H' σ S' →
  ∀ J Gd Y, Walk J ds.length Gd Y → (∀ H1, Same G' H1 → Gd H1) → (∀ i H1 x H2, i < ds.length → Y i H1 x H2 → ∃ d, ds[i]? = some d ∧ Comes kk K G' H1 H2 x d) → R J H'
def DI {kk : Dek} (X : Cx) (W : Wd kk) (tg it : Expr) (t : DIT) : Prop := PI X tg it (liftI W X.K t)
theorem pi_imp {X : Cx} {tg e : Expr} {t t' : TI} (h : PI X tg e t) (i : ∀ σ H R, t' σ H R → t σ H R) : PI X tg e t' := ⟨fun pins s σ H R I q => h.run pins s σ H R I (i _ _ _ q)⟩
theorem comes_same {kk : Dek} {K : PySem.W.Frag} {G H : Hp} {x : V} {d : D} (h : Dv K G x d) : Comes kk K G H H x d := fun W G1 σ1 S1 s R => ⟨G1, Same.refl _, R, Dv.up s _ _ h⟩
def forL (g : DGT) (tb : DST) (E : DEnds) : List D → Ds → Prop
  | [], S => E.nx S
  | d :: ds, S => g d S fun S1 => tb { E with nx := forL g tb E ds, ct := forL g tb E ds, bk := E.nx } S1
def dFor (ti : DIT) (g : DGT) (tb : DST) : DST := fun E S => ti S fun ds S1 => forL g tb E ds S1
theorem drop_cons {α : Type} {l : List α} {i : Nat} {d : α} (e : l[i]? = some d) : l.drop i = d :: l.drop (i + 1) := by
  obtain ⟨h, e⟩ := List.getElem?_eq_some_iff.mp e
  rw [← e]; exact List.drop_eq_getElem_cons h
theorem ds_for {is : List Nat} {iter tg : Expr} {body : List Stmt} {ti : DIT} {g : DGT} {tb : DST} (hp : PassesOwn (model X.prog X.w) X.A X.env X.xe) (hc : X.calm = true) (hi : DI X W tg iter ti) (hg : DG X W tg is g) (hb : DSs X W body tb)
    (hs : ∀ x, foldedSetIterable iter X.env x = pure x := by intro _; rfl) : DS X W (.For tg iter body [] pos) (dFor ti g tb) := by
  refine ps_imp (ps_for hp hc hi hg hb hs) fun N σ H ⟨G, S, E, R, h, ok⟩ => ?_
  refine ⟨G, S, _, R, h, fun ds S1 p1 H1 G1 s1 R1 J Gd Y wk gd yl => ?_⟩
  refine for_it wk (fun i σ2 H2 => ∃ G2 S2, Same G1 G2 ∧ Rep W X.K G2 H2 σ2 S2 ∧ forL g tb E (ds.drop i) S2) ⟨G1, S1, Same.refl _, R1, by rw [List.drop_zero]; exact p1⟩ (fun i σ2 H2 _ ⟨G2, S2, s2, R2, _⟩ => gd H2 (s2.trans R2.gh)) ?_ ?_
  · rintro i x σ2 H2 H3 hi ⟨G2, S2, s2, R2, p2⟩ y
    obtain ⟨d, ed, co⟩ := yl i H2 x H3 hi y
    obtain ⟨G3, s3, R3, d3⟩ := co W G2 σ2 S2 s2 R2
    rw [drop_cons ed] at p2
    refine ⟨G3, S2, d, _, R3, d3, p2, fun S4 p4 σ4 H4 G4 s4 R4 _ => ?_⟩
    have s14 := (s2.trans s3).trans s4
    have k4 := (ok.up s1).up s14
    exact ⟨G4, S4, _, R4, p4, ⟨fun S5 σ5 H5 G5 z n R5 => ⟨_, S5, s14.trans z, R5, n⟩, k4.rt, fun S5 σ5 H5 G5 z n R5 => k4.nx S5 σ5 H5 G5 z n R5, fun S5 σ5 H5 G5 z n R5 => ⟨_, S5, s14.trans z, R5, n⟩⟩⟩
  · rintro σ2 H2 ⟨G2, S2, s2, R2, p2⟩
    rw [List.drop_length] at p2
    exact ok.nx S2 σ2 H2 G2 (s1.trans s2) p2 R2
end
end Dl
namespace Dl
open PySem PySem.Spec PyProof.Rows L2 Sw
/-! ### defs -/
abbrev DSp := List D → Int → (D → Int → Prop) → Prop
def spL (K : PySem.W.Frag) (k : Dek) (sp : DSp) : Sp := fun vs H Q _ => ∃ G ds n P, Same G H ∧ (∀ a ∈ k.dk, G a = none) ∧ k.deck H n ∧ DvAll K G vs ds ∧ sp ds n P ∧
  ∀ d n', P d n' → ∀ v H' G', Same G G' → Same G' H' → (∀ a o, G' a = some o → G a = some o ∨ (H a = none ∧ a ∉ k.dk)) → (∀ a o, H a = some o → a ∉ k.dk → H' a = some o) → k.deck H' n' → Dv K G' v d → Q v H'
def FnD (P : Program) (w : World) (K : PySem.W.Frag) (mg : Str → Option Value) (base : Heap) (l : Nat) (f : Addr) (fd : FuncData) (ps : List Str) (k : Dek) (sp : DSp) : Prop := FnG P w K mg base l f fd ps (spL K k sp)
def startD : List Str → List D → List (Option Sl)
  | _ :: N, d :: ds => some (.v d) :: startD N ds
  | _ :: N, [] => none :: startD N []
  | [], _ => []
theorem startD_len : ∀ (N : List Str) (ds : List D), (startD N ds).length = N.length
  | _ :: N, _ :: ds => by rw [startD, List.length_cons, List.length_cons, startD_len N ds]
  | _ :: N, [] => by rw [startD, List.length_cons, List.length_cons, startD_len N []]
  | [], _ => rfl
theorem getS_start : ∀ {N : List Str} {ds : List D} {i : Nat} {s : Sl}, getS (startD N ds) i = some s → ∃ d, s = .v d ∧ ds[i]? = some d
  | _ :: N, d :: ds, 0, s, h => by
    have h : some (Sl.v d) = some s := h
    cases h
    exact ⟨d, rfl, rfl⟩
  | _ :: N, d :: ds, i + 1, s, h => by
    obtain ⟨d', h1, h2⟩ := getS_start (N := N) (ds := ds) (i := i) h
    exact ⟨d', h1, by simpa using h2⟩
  | _ :: N, [], 0, s, h => by cases h
  | _ :: N, [], i + 1, s, h => by
    obtain ⟨d', h1, h2⟩ := getS_start (N := N) (ds := []) (i := i) h
    simp at h2
  | [], _, _, _, h => by cases h
theorem getS_get : ∀ (l : List (Option Sl)) (i : Nat) (s : Sl), getS l i = some s ↔ l[i]? = some (some s)
  | [], i, s => by simp [getS]
  | x :: l, 0, s => by simp [getS]
  | x :: l, i + 1, s => by simpa [getS] using getS_get l i s
theorem rep_start {K : PySem.W.Frag} {k : Dek} {G H : Hp} {n : Int} {vs : List V} {ds : List D} {N : List Str} (hl : ds.length ≤ N.length) (s : Same G H) (g : ∀ a ∈ k.dk, G a = none) (d : k.deck H n) (dv : DvAll K G vs ds) :
    Rep (Wd.of k G H g) K G H (L2.start N vs) ⟨startD N ds, n⟩ := by
  have lv := dva_len dv
  refine ⟨s, Same.refl _, fun a o e => ?_, fun a o e => .inl e, ?_, fun i s e => ?_, fun i j d e a _ q => ?_, d⟩
  · have e : (if a ∈ k.dk then none else H a) = some o := e
    split at e
    · cases e
    · exact e
  · rw [startD_len]
    unfold L2.start
    simp only [List.length_append, List.length_map, List.length_replicate]; omega
  · obtain ⟨d, rfl, ed⟩ := getS_start e
    obtain ⟨v, ev, dv'⟩ := dva_get' dv ed
    refine ⟨v, ?_, dv'⟩
    unfold L2.start
    have hi := (List.getElem?_eq_some_iff.mp ev).1
    rw [List.getElem?_append_left (by simpa using hi), List.getElem?_map, ev]; rfl
  · obtain ⟨_, z, _⟩ := getS_start q
    cases z
section
variable {P : Program} {w : World} {K : PySem.W.Frag} {mg : Str → Option Value} {base : Heap} {l : Nat} {f : Addr} {fd : FuncData} {ps : List Str} {k : Dek} {sp : DSp}
/-- a def, by its body over data -/
theorem fnd_of {x q : Str} {pa : Arguments} {bo : List Stmt} {sc : Scope} {N : List Str} (F : FunD K x q pa bo sc [] [] f fd) (S : FnScope N ps sc) (hl : ∀ ds n P, sp ds n P → ds.length = ps.length)
    (hbo : ∀ (cv : Value) (A : Around) (out : List Env) (s : Shared) (H : Hp) (E : XK) (W : Wd k) (ds : List D) (n : Int) (Q : D → Int → Prop), A.guards = some [] → Room l (A.deeper (envOfC q sc s.heap.objs.size f cv)) → sp ds n Q →
      ∃ t, DSs (cxOf CX0 P w K mg base N q sc f cv A out s H E) W bo t ∧ t { nx := fun S => Q .non S.dr, rt := fun d S => Q d S.dr } ⟨startD N ds, n⟩) : FnD P w K mg base (l + 1) f fd ps k sp := by
  have lN : ps.length ≤ N.length := by have := congrArg List.length S.pre; rw [List.length_take] at this; omega
  refine fng_of F S (fun vs H Q E ⟨G, ds, n, P, _, _, _, dv, h, _⟩ => (dva_len dv).trans (hl _ _ _ h)) fun cv A out s H vs Q E hG hr ⟨G, ds, n, R, sGH, g, dk, dv, h, q⟩ => ?_
  obtain ⟨t, ht, hq⟩ := hbo cv A out s H E (Wd.of k G H g) ds n R hG hr h
  have R0 := rep_start (K := K) (N := N) (by rw [hl _ _ _ h]; exact lN) sGH g dk dv
  have fin : ∀ d S' σ H' G' v, Same G G' → R d S'.dr → Rep (Wd.of k G H g) K G' H' σ S' → Dv K G' v d → Q v H' := fun d S' σ H' G' v s' r R' dv' => by
    refine q d S'.dr r v H' G' s' R'.gh (fun a o e => ?_) (fun a o e m => R'.fr a o ?_) R'.dk dv'
    · rcases R'.nw a o e with e | ⟨e, m⟩
      · exact .inl e
      · refine .inr ⟨?_, m⟩
        have e : (if a ∈ k.dk then none else H a) = none := e
        exact (if_neg (show a ∉ k.dk from m)).symm.trans e
    · show (if a ∈ k.dk then none else H a) = some o
      exact (if_neg (show a ∉ k.dk from m)).trans e
  exact ⟨_, ht, G, _, _, R0, hq, ⟨fun S' σ H' G' s' r R' => fin .non S' σ H' G' .non s' r R' .non, fun d S' σ H' G' v s' r R' dv' => fin d S' σ H' G' v s' r R' dv', fun _ _ _ _ _ z => z.elim, fun _ _ _ _ _ z => z.elim⟩⟩
end
section
variable {X : Cx} {kk : Dek} {W : Wd kk} {l : Nat} {f : Addr} {fd : FuncData} {ps : List Str} {sp : DSp} {x : Str} {p pos : Pos} {e : Expr} {es : List Expr} {t : DTA}
def dCall (sp : DSp) (t : DTA) : DT := fun S P => t S fun ds S1 => sp ds S1.dr fun d n => P d ⟨S1.ρ, n⟩
/-- behind a call -/
theorem after_call {K : PySem.W.Frag} {G H : Hp} {σ : L2.St} {S : Ds} {ds : List D} {vs : List V} {P : D → Ds → Prop} {Q : VK} {E : XK} (R : Rep W K G H σ S) (dv : DvAll K G vs ds) (h : sp ds S.dr fun d n => P d ⟨S.ρ, n⟩)
    (q : ∀ d S', P d S' → ∀ v H' G', Same G G' → Rep W K G' H' σ S' → Dv K G' v d → Q v H') : spL K kk sp vs H Q E :=
  ⟨G, ds, S.dr, _, R.gh, R.gdk, R.dk, dv, h, fun d n' p v H' G' s1 s2 new old dk dv' => q d _ p v H' G' s1 (R.grow s1 s2 new old dk) dv'⟩
theorem de_call (hG : X.A.guards = some []) (F : FnD X.prog X.w X.K X.mg X.base l f fd ps kk sp) (hr : Room l X.A) (hg : Gl X x) (hm : X.mg x = some (.ref f)) (hk : PySem.W.keepIn X.K (.ref f) = true) (hb : Binds X.K fd ps [])
    (ha : DA X W (e :: es) t) (hd : (x == ("__debug__" : Str)) = false := by decide) (he : starEach (e :: es) X.env = (false, eval e X.env) :: starEach es X.env := by rfl)
    (hp : (backTo pos (starEach es X.env)).any (·.1) = false := by rfl) : DE X W (.Call (.Name x p) (e :: es) [] pos) (dCall sp t) := by
  refine pe_imp (pe_callG hG F hr hg hm hk hb ha hd he hp) fun σ H Q ⟨G, S, P, R, h, q⟩ => ?_
  exact ⟨G, S, _, R, h, fun ds S1 p1 vs H1 G1 s1 R1 dv => after_call R1 dv p1 fun d S2 p2 v H2 G2 s2 R2 dv2 => q d S2 p2 v H2 G2 (s1.trans s2) R2 dv2⟩
/-! ### built-in defs -/
def DCal {kk : Dek} (X : Cx) (W : Wd kk) (f : Value) (g : List D → (D → Prop) → Prop) : Prop := ∃ r, CallR X f r ∧ ∀ (G H : Hp) (σ : L2.St) (S : Ds) (vs : List V) (ds : List D) (P : D → Prop) (Q : VK), Rep W X.K G H σ S → DvAll X.K G vs ds → g ds P →
  (∀ d, P d → ∀ u H' G', Same G G' → Rep W X.K G' H' σ S → Dv X.K G' u d → Q u H') → r vs H Q
def dCB (g : List D → (D → Prop) → Prop) (t : DTA) : DT := fun S P => t S fun ds S1 => g ds fun d => P d S1
theorem DCal.or {f : Value} {g g' : List D → (D → Prop) → Prop} (h : DCal X W f g) (h' : DCal X W f g') : DCal X W f (fun x P => g x P ∨ g' x P) := by
  obtain ⟨r, o, k⟩ := h
  obtain ⟨r', o', k'⟩ := h'
  refine ⟨_, o.or o', fun G H σ S vs ds P Q R hv hg hq => ?_⟩
  rcases hg with hg | hg
  · exact .inl (k G H σ S vs ds P Q R hv hg hq)
  · exact .inr (k' G H σ S vs ds P Q R hv hg hq)
theorem DCal.imp {f : Value} {g g' : List D → (D → Prop) → Prop} (h : DCal X W f g) (i : ∀ x P, g' x P → g x P) : DCal X W f g' := by
  obtain ⟨r, o, k⟩ := h
  exact ⟨r, o, fun G H σ S vs ds P Q R hv hg hq => k G H σ S vs ds P Q R hv (i _ _ hg) hq⟩
theorem lift_cb {r : List V → Hp → VK → Prop} {g : List D → (D → Prop) → Prop} (k : ∀ (G H : Hp) (σ : L2.St) (S : Ds) (vs : List V) (ds : List D) (P : D → Prop) (Q : VK), Rep W X.K G H σ S → DvAll X.K G vs ds → g ds P →
    (∀ d, P d → ∀ u H' G', Same G G' → Rep W X.K G' H' σ S → Dv X.K G' u d → Q u H') → r vs H Q) (σ : L2.St) (H : Hp) (Q : VK) : lift W X.K (dCB g t) σ H Q → tCB r (liftA W X.K t) σ H Q := by
  rintro ⟨G, S, P, R, h, q⟩
  exact ⟨G, S, _, R, h, fun ds S1 p1 vs H1 G1 s1 R1 dv => k G1 H1 σ S1 vs ds _ _ R1 dv p1 fun d p2 u H' G' s' R' dv' => q d S1 p2 u H' G' (s1.trans s') R' dv'⟩
theorem de_callB {id : String} {g : List D → (D → Prop) → Prop} (hc : DCal X W (.builtin id) g) (hg : Gl X x) (hm : X.mg x = none) (hv : bootBuiltins x = some (.builtin id)) (ha : DA X W (e :: es) t) (hn : x ≠ "__name__" := by decide) (hdb : (x == ("__debug__" : Str)) = false := by decide)
    (he : starEach (e :: es) X.env = (false, eval e X.env) :: starEach es X.env := by rfl) (hpl : (backTo pos (starEach es X.env)).any (·.1) = false := by rfl) : DE X W (.Call (.Name x p) (e :: es) [] pos) (dCB g t) := by
  obtain ⟨r, o, k⟩ := hc
  exact pe_imp (pe_callB o hg hm hv ha hn hdb he hpl) (lift_cb k)
theorem de_callTy {T : String} {g : List D → (D → Prop) → Prop} (hc : DCal X W (.type T) g) (hg : Gl X x) (hm : X.mg x = none) (hv : bootBuiltins x = some (.type T)) (ha : DA X W (e :: es) t) (hn : x ≠ "__name__" := by decide) (hdb : (x == ("__debug__" : Str)) = false := by decide)
    (he : starEach (e :: es) X.env = (false, eval e X.env) :: starEach es X.env := by rfl) (hpl : (backTo pos (starEach es X.env)).any (·.1) = false := by rfl) : DE X W (.Call (.Name x p) (e :: es) [] pos) (dCB g t) := by
  obtain ⟨r, o, k⟩ := hc
  exact pe_imp (pe_callTy o hg hm hv ha hn hdb he hpl) (lift_cb k)
/-- .. that makes a new object -/
def DCalO {kk : Dek} (X : Cx) (W : Wd kk) (f : Value) (g : List D → (D → Prop) → Prop) : Prop := ∃ r, CallR X f r ∧ ∀ (G H : Hp) (σ : L2.St) (S : Ds) (vs : List V) (ds : List D) (P : D → Prop) (Q : VK), Rep W X.K G H σ S → DvAll X.K G vs ds → g ds P →
  (∀ d, P d → ∀ a H' G', Same G G' → Rep W X.K G' H' σ S → Frsh W G' a → Own X.K G' H' a d → NoOwn σ S a → Q (.ref a) H') → r vs H Q
theorem lift_cbO {r : List V → Hp → VK → Prop} {g : List D → (D → Prop) → Prop} (k : ∀ (G H : Hp) (σ : L2.St) (S : Ds) (vs : List V) (ds : List D) (P : D → Prop) (Q : VK), Rep W X.K G H σ S → DvAll X.K G vs ds → g ds P →
    (∀ d, P d → ∀ a H' G', Same G G' → Rep W X.K G' H' σ S → Frsh W G' a → Own X.K G' H' a d → NoOwn σ S a → Q (.ref a) H') → r vs H Q) (σ : L2.St) (H : Hp) (Q : VK) : liftO W X.K (dCB g t) σ H Q → tCB r (liftA W X.K t) σ H Q := by
  rintro ⟨G, S, P, R, h, q⟩
  exact ⟨G, S, _, R, h, fun ds S1 p1 vs H1 G1 s1 R1 dv => k G1 H1 σ S1 vs ds _ _ R1 dv p1 fun d p2 a H' G' s' R' f o no => q d S1 p2 a H' G' (s1.trans s') R' f o no⟩
theorem do_callB {id : String} {g : List D → (D → Prop) → Prop} (hc : DCalO X W (.builtin id) g) (hg : Gl X x) (hm : X.mg x = none) (hv : bootBuiltins x = some (.builtin id)) (ha : DA X W (e :: es) t) (hn : x ≠ "__name__" := by decide) (hdb : (x == ("__debug__" : Str)) = false := by decide)
    (he : starEach (e :: es) X.env = (false, eval e X.env) :: starEach es X.env := by rfl) (hpl : (backTo pos (starEach es X.env)).any (·.1) = false := by rfl) : DO X W (.Call (.Name x p) (e :: es) [] pos) (dCB g t) := by
  obtain ⟨r, o, k⟩ := hc
  exact pe_imp (pe_callB o hg hm hv ha hn hdb he hpl) (lift_cbO k)
theorem do_callTy {T : String} {g : List D → (D → Prop) → Prop} (hc : DCalO X W (.type T) g) (hg : Gl X x) (hm : X.mg x = none) (hv : bootBuiltins x = some (.type T)) (ha : DA X W (e :: es) t) (hn : x ≠ "__name__" := by decide) (hdb : (x == ("__debug__" : Str)) = false := by decide)
    (he : starEach (e :: es) X.env = (false, eval e X.env) :: starEach es X.env := by rfl) (hpl : (backTo pos (starEach es X.env)).any (·.1) = false := by rfl) : DO X W (.Call (.Name x p) (e :: es) [] pos) (dCB g t) := by
  obtain ⟨r, o, k⟩ := hc
  exact pe_imp (pe_callTy o hg hm hv ha hn hdb he hpl) (lift_cbO k)
end
end Dl
namespace Dl
open PySem PySem.Spec PyProof.Rows L2 Sw RT RZ
/-! ### what is walked -/
section
variable {kk : Dek} {X : Cx} {W : Wd kk} {tg e e2 : Expr} {t t2 : DT} {ta : DTA} {p pos tpos : Pos}
/-- a list, a tuple, a text, by its value -/
def iAny (K : PySem.W.Frag) (tl : TE) : TI := fun σ H R => tl σ H fun x H1 => (∃ a xs, x = .ref a ∧ SqL K H1 a xs ∧ R (Itl K a) H1) ∨ (∃ a xs, x = .ref a ∧ SqT K H1 a xs ∧ R (Itt K a) H1) ∨ ∃ z, x = .str z ∧ R (Its z) H1
theorem pi_any {l : Expr} {tl : TE} (hl : PE X l tl) : PI X tg l (iAny X.K tl) := by
  constructor
  intro pins s σ H R I h
  refine thn (hl.run pins s σ H _ I h) ?_
  rintro v s1 ⟨x, H1, J, r1, q⟩
  rcases q with ⟨a, xs, rfl, hq, q⟩ | ⟨a, xs, rfl, hq, q⟩ | ⟨z, rfl, q⟩
  · cases r1
    obtain ⟨its, _, pl, _⟩ := J.list hq
    refine wpAny_pyIter_list pl.isList ⟨s1.heap.objs.size, [s1.heap.objs.size], _, _, H1, rfl, J.kept (t' := s1.toks) fun b o z => Heap.get?_push_of_some _ z, turn_list a _, ⟨_, Heap.get?_push_size _ rfl, rfl, rfl⟩, fun b hb => ?_, q⟩
    obtain rfl : b = s1.heap.objs.size := by simpa using hb
    exact J.fpOk (Nat.le_refl _) (J.hok.fresh (Nat.le_refl _))
  · cases r1
    obtain ⟨its, _, pl, _⟩ := J.tuple hq
    refine wpAny_pyIter_tuple (show s1.heap.IsTuple a its.toArray from pl) ⟨s1.heap.objs.size, [s1.heap.objs.size], _, _, H1, rfl, J.kept (t' := s1.toks) fun b o z => Heap.get?_push_of_some _ z, turn_tuple a _, ⟨_, Heap.get?_push_size _ rfl, rfl, rfl⟩, fun b hb => ?_, q⟩
    obtain rfl : b = s1.heap.objs.size := by simpa using hb
    exact J.fpOk (Nat.le_refl _) (J.hok.fresh (Nat.le_refl _))
  · obtain ⟨t, rfl⟩ := r1
    cases hz : z.cps.all (· < 128)
    · exact wpAny_pyIter_wide hz (pi_one (tk := s1.toks) J _ (turn_str _ z t "str_iterator" (.inr rfl)) ⟨_, Heap.get?_push_size _ rfl, rfl, rfl⟩ q)
    · exact wpAny_pyIter_ascii hz (pi_one (tk := s1.toks) J _ (turn_str _ z t "str_ascii_iterator" (.inl rfl)) ⟨_, Heap.get?_push_size _ rfl, rfl, rfl⟩ q)
def chr (c : Nat) : Str := ⟨#[c]⟩
/-- the items of a value -/
def items : D → Option (List D)
  | .lst ds => some ds
  | .tup ds => some ds
  | .str z => some (z.cps.toList.map fun c => .str (chr c))
  | _ => none
def dIAny (t : DT) : DIT := fun S P => t S fun x S1 => match items x with
  | some ds => P ds S1
  | none => False
theorem yat_comes {G : Hp} {vs : List V} {ds : List D} (dv : DvAll X.K G vs ds) {i : Nat} {H1 H2 : Hp} {x : V} (hi : i < ds.length) (y : YAt vs i H1 x H2) : ∃ d, ds[i]? = some d ∧ Comes kk X.K G H1 H2 x d := by
  obtain ⟨rfl, ex⟩ := y
  obtain ⟨d, e1, e2⟩ := dva_get dv ex
  exact ⟨d, e1, comes_same e2⟩
theorem di_any (h : DE X W e t) : DI X W tg e (dIAny t) := by
  refine pi_imp (pi_any h) fun σ H R ⟨G, S, P, Rp, p, q⟩ => ?_
  refine ⟨G, S, _, Rp, p, fun x S1 p1 v H1 G1 s1 R1 d1 => ?_⟩
  cases x with
  | lst ds =>
    cases d1 with
    | @lst a xs _ h1 h2 =>
      have l := dva_len h2
      exact .inl ⟨a, xs, rfl, SqL.of (R1.gh _ _ h1), q ds S1 p1 H1 G1 s1 R1 _ _ _ (by rw [← l]; exact walk_list) (fun H2 s2 => SqL.of (s2 _ _ h1)) fun i H2 x H3 hi y => yat_comes h2 hi y⟩
  | tup ds =>
    cases d1 with
    | @tup a xs _ h1 h2 =>
      have l := dva_len h2
      exact .inr (.inl ⟨a, xs, rfl, SqT.of (R1.gh _ _ h1), q ds S1 p1 H1 G1 s1 R1 _ _ _ (by rw [← l]; exact walk_tup) (fun H2 s2 => SqT.of (s2 _ _ h1)) fun i H2 x H3 hi y => yat_comes h2 hi y⟩)
  | str z =>
    cases d1
    refine .inr (.inr ⟨z, rfl, q _ S1 p1 H1 G1 s1 R1 _ _ _ (by rw [List.length_map, Array.length_toList]; exact walk_str) (fun _ _ => trivial) fun i H2 x H3 hi y => ?_⟩)
    obtain ⟨rfl, c, ec, rfl⟩ := y
    exact ⟨.str (chr c), by rw [List.getElem?_map, Array.getElem?_toList, ec]; rfl, comes_same (.str _)⟩
  | _ => exact False.elim p1
/-- range(n), range(m, n) -/
def upto (lo : Int) (n : Nat) : List D := (List.range n).map fun i => .int (lo + (i : Nat))
def dIR1 (ta : DTA) : DIT := fun S P => ta S fun ds S1 => match ds with
  | [.int j] => (-(2 ^ 62) ≤ j ∧ j < 2 ^ 62) ∧ P (upto 0 j.toNat) S1
  | _ => False
def dIR2 (ta : DTA) : DIT := fun S P => ta S fun ds S1 => match ds with
  | [.int i, .int j] => (-(2 ^ 62) ≤ i ∧ i < 2 ^ 62 ∧ -(2 ^ 62) ≤ j ∧ j < 2 ^ 62) ∧ P (upto i (j - i).toNat) S1
  | _ => False
theorem rng_comes {G : Hp} {lo : Int} {n i : Nat} {H1 H2 : Hp} {x : V} (hi : i < (upto lo n).length) (y : YFn (fun i => V.int (lo + (i : Nat))) i H1 x H2) : ∃ d, (upto lo n)[i]? = some d ∧ Comes kk X.K G H1 H2 x d := by
  obtain ⟨rfl, rfl⟩ := y
  unfold upto at hi ⊢
  rw [List.length_map, List.length_range] at hi
  exact ⟨.int (lo + (i : Nat)), by rw [List.getElem?_map, List.getElem?_range hi]; rfl, comes_same (.int _)⟩
theorem di_range1 (hg : Gl X "range") (hm : X.mg "range" = none) (ha : DA X W [e] ta) (hs : starEach [e] X.env = [(false, eval e X.env)] := by rfl) : DI X W tg (.Call (.Name "range" p) [e] [] pos) (dIR1 ta) := by
  refine pi_imp (pi_range1 hg hm ha hs) fun σ H R ⟨G, S, P, Rp, p, q⟩ => ?_
  refine ⟨G, S, _, Rp, p, fun ds S1 p1 vs H1 G1 s1 R1 d1 => ?_⟩
  match ds, d1, p1 with
  | [.int j], .cons (.int _) .nil, ⟨⟨b1, b2⟩, p1⟩ =>
    exact ⟨j, rfl, b1, b2, q _ S1 p1 H1 G1 s1 R1 _ _ _ (by rw [upto, List.length_map, List.length_range]; exact walk_range) (fun _ _ => trivial) fun i H2 x H3 hi y => rng_comes hi y⟩
theorem di_range2 {a b : Expr} (hg : Gl X "range") (hm : X.mg "range" = none) (ha : DA X W [a, b] ta) (hs : starEach [a, b] X.env = [(false, eval a X.env), (false, eval b X.env)] := by rfl) (hs2 : starEach [b] X.env = [(false, eval b X.env)] := by rfl) :
    DI X W tg (.Call (.Name "range" p) [a, b] [] pos) (dIR2 ta) := by
  refine pi_imp (pi_range2 hg hm ha hs hs2) fun σ H R ⟨G, S, P, Rp, p, q⟩ => ?_
  refine ⟨G, S, _, Rp, p, fun ds S1 p1 vs H1 G1 s1 R1 d1 => ?_⟩
  match ds, d1, p1 with
  | [.int i0, .int j], .cons (.int _) (.cons (.int _) .nil), ⟨b1, p1⟩ =>
    exact ⟨i0, j, rfl, b1, q _ S1 p1 H1 G1 s1 R1 _ _ _ (by rw [upto, List.length_map, List.length_range]; exact walk_range) (fun _ _ => trivial) fun i H2 x H3 hi y => rng_comes hi y⟩
/-- a pair comes -/
theorem pair_comes {G H1 H2 : Hp} {x u v : V} {d1 d2 : D} {T : Addr} (ex : x = .ref T) (hT : H1 T = none) (eH : H2 = upd H1 T (.tup [u, v])) (h1 : Dv X.K G u d1) (h2 : Dv X.K G v d2) : Comes kk X.K G H1 H2 x (.tup [d1, d2]) := by
  intro W G1 σ1 S1 s R
  subst ex eH
  have g := same_upd (o := .tup [u, v]) (R.gh.free hT)
  exact ⟨_, g, R.new hT, .tup upd_same (.cons (Dv.up (s.trans g) _ _ h1) (.cons (Dv.up (s.trans g) _ _ h2) .nil))⟩
def zipD (ds es : List D) : List D := (ds.zip es).map fun p => .tup [p.1, p.2]
def dIZip (ta : DTA) : DIT := fun S P => ta S fun ds S1 => match ds with
  | [.tup a, .tup b] => P (zipD a b) S1
  | [.lst a, .lst b] => P (zipD a b) S1
  | _ => False
theorem zip_comes {G : Hp} {xs ys : List V} {ds es : List D} (h1 : DvAll X.K G xs ds) (h2 : DvAll X.K G ys es) {i : Nat} {H1 H2 : Hp} {x : V} (hi : i < (zipD ds es).length) (y : YPair (fun i => xs[i]?) (fun i => ys[i]?) i H1 x H2) :
    ∃ d, (zipD ds es)[i]? = some d ∧ Comes kk X.K G H1 H2 x d := by
  obtain ⟨T, u, v, ex, hT, eH, eu, ev⟩ := y
  obtain ⟨d, ed, dd⟩ := dva_get h1 eu
  obtain ⟨f, ef, df⟩ := dva_get h2 ev
  refine ⟨.tup [d, f], ?_, pair_comes ex hT eH dd df⟩
  unfold zipD
  rw [List.getElem?_map, show (ds.zip es)[i]? = some (d, f) from List.getElem?_zip_eq_some.mpr ⟨ed, ef⟩]; rfl
theorem zipD_len (ds es : List D) : (zipD ds es).length = min ds.length es.length := by unfold zipD; rw [List.length_map, List.length_zip]
theorem walk_zipT {K : PySem.W.Frag} {a b : Addr} {xs ys : List V} {n : Nat} (hn : n = min xs.length ys.length) : Walk (ItzT K a b) n (fun H => SqT K H a xs ∧ SqT K H b ys) (YPair (fun i => xs[i]?) (fun i => ys[i]?)) := by
  constructor
  · intro i H hi q
    exact ⟨xs, ys, xs[i]'(by omega), ys[i]'(by omega), q.1, q.2, List.getElem?_eq_getElem (by omega), List.getElem?_eq_getElem (by omega)⟩
  · intro H q
    exact ⟨xs, ys, q.1, q.2, by omega⟩
  · rintro i H v H' _ q ⟨T, x, z, h1, h2, h3, h4, h5⟩
    exact ⟨T, x, z, h1, h2, h3, h4 xs q.1, h5 ys q.2⟩
theorem di_zip {elts : List Expr} {k0 : Nat} (hg : Gl X "zip") (hm : X.mg "zip" = none) (ha : DA X W [e, e2] ta)
    (hs : starEach [e, e2] X.env = (false, eval e X.env) :: starEach [e2] X.env := by rfl) (hpl : (backTo pos (starEach [e2] X.env)).any (·.1) = false := by rfl) : DI X W (.Tuple elts k0 tpos) (.Call (.Name "zip" p) [e, e2] [] pos) (dIZip ta) := by
  refine pi_imp (pi_zipA hg hm ha hs hpl) fun σ H R ⟨G, S, P, Rp, p, q⟩ => ?_
  refine ⟨G, S, _, Rp, p, fun ds S1 p1 vs H1 G1 s1 R1 d1 => ?_⟩
  match ds, d1, p1 with
  | [.tup a, .tup b], .cons (.tup h1 h2) (.cons (.tup h3 h4) .nil), p1 =>
    exact ⟨_, _, _, _, rfl, .inr ⟨SqT.of (R1.gh _ _ h1), SqT.of (R1.gh _ _ h3), q _ S1 p1 H1 G1 s1 R1 _ _ _ (walk_zipT (by rw [zipD_len, dva_len h2, dva_len h4])) (fun H2 s2 => ⟨SqT.of (s2 _ _ h1), SqT.of (s2 _ _ h3)⟩) fun i H2 x H3 hi y => zip_comes h2 h4 hi y⟩⟩
  | [.lst a, .lst b], .cons (.lst h1 h2) (.cons (.lst h3 h4) .nil), p1 =>
    exact ⟨_, _, _, _, rfl, .inl ⟨SqL.of (R1.gh _ _ h1), SqL.of (R1.gh _ _ h3), q _ S1 p1 H1 G1 s1 R1 _ _ _ (walk_zip (by rw [zipD_len, dva_len h2, dva_len h4])) (fun H2 s2 => ⟨SqL.of (s2 _ _ h1), SqL.of (s2 _ _ h3)⟩) fun i H2 x H3 hi y => zip_comes h2 h4 hi y⟩⟩
/-- enumerate(list) -/
def enumD (ds : List D) : List D := (ds.zipIdx).map fun p => .tup [.int (p.2 : Nat), p.1]
def dIEnum (ta : DTA) : DIT := fun S P => ta S fun ds S1 => match ds with
  | [.lst a] => P (enumD a) S1
  | _ => False
theorem di_enum {elts : List Expr} {k0 : Nat} (hg : Gl X "enumerate") (hm : X.mg "enumerate" = none) (ha : DA X W [e] ta) (hs : starEach [e] X.env = [(false, eval e X.env)] := by rfl) : DI X W (.Tuple elts k0 tpos) (.Call (.Name "enumerate" p) [e] [] pos) (dIEnum ta) := by
  refine pi_imp (pi_enum hg hm ha hs) fun σ H R ⟨G, S, P, Rp, p, q⟩ => ?_
  refine ⟨G, S, _, Rp, p, fun ds S1 p1 vs H1 G1 s1 R1 d1 => ?_⟩
  match ds, d1, p1 with
  | [.lst a], .cons (.lst h1 h2) .nil, p1 =>
    refine ⟨_, _, rfl, SqL.of (R1.gh _ _ h1), q _ S1 p1 H1 G1 s1 R1 _ _ _ (by rw [enumD, List.length_map, List.length_zipIdx, ← dva_len h2]; exact walk_enum) (fun H2 s2 => SqL.of (s2 _ _ h1)) fun i H2 x H3 hi y => ?_⟩
    obtain ⟨T, u, v, ex, hT, eH, eu, ev⟩ := y
    cases eu
    obtain ⟨d, ed, dd⟩ := dva_get h2 ev
    refine ⟨.tup [.int (i : Nat), d], ?_, pair_comes ex hT eH (.int _) dd⟩
    unfold enumD
    rw [List.getElem?_map, List.getElem?_zipIdx, ed]; simp
/-- reversed(list or tuple) -/
def dIRev (t : DT) : DIT := fun S P => t S fun x S1 => match x with
  | .lst a => P a.reverse S1
  | .tup a => P a.reverse S1
  | _ => False
theorem rev_get {α : Type} {l : List α} {i : Nat} (h : i < l.length) : l.reverse[i]? = l[l.length - 1 - i]? := by rw [List.getElem?_reverse h]
theorem di_rev (hg : Gl X "reversed") (hm : X.mg "reversed" = none) (he : DE X W e t) (hs : starEach [e] X.env = (false, eval e X.env) :: starEach [] X.env := by rfl) : DI X W tg (.Call (.Name "reversed" p) [e] [] pos) (dIRev t) := by
  refine pi_imp (pi_revA hg hm he hs) fun σ H R ⟨G, S, P, Rp, p, q⟩ => ?_
  refine ⟨G, S, _, Rp, p, fun x S1 p1 v H1 G1 s1 R1 d1 => ?_⟩
  have com : ∀ {xs : List V} {ds : List D}, DvAll X.K G1 xs ds → ∀ i H2 x H3, i < ds.reverse.length → (H3 = H2 ∧ xs[xs.length - 1 - i]? = some x) → ∃ d, ds.reverse[i]? = some d ∧ Comes kk X.K G1 H2 H3 x d := fun {xs ds} h2 i H2 x H3 hi ⟨e1, e2⟩ => by
    subst e1
    obtain ⟨d, ed, dd⟩ := dva_get h2 e2
    rw [List.length_reverse] at hi
    exact ⟨d, by rw [rev_get hi, ← dva_len h2]; exact ed, comes_same dd⟩
  cases x with
  | lst ds =>
    cases d1 with
    | @lst a xs _ h1 h2 =>
      exact ⟨a, xs, rfl, .inl ⟨SqL.of (R1.gh _ _ h1), q _ S1 p1 H1 G1 s1 R1 _ _ _ (by rw [List.length_reverse, ← dva_len h2]; exact walk_rev) (fun H2 s2 => SqL.of (s2 _ _ h1)) (com h2)⟩⟩
  | tup ds =>
    cases d1 with
    | @tup a xs _ h1 h2 =>
      refine ⟨a, xs, rfl, .inr ⟨SqT.of (R1.gh _ _ h1), q _ S1 p1 H1 G1 s1 R1 _ (fun H => SqT X.K H a xs) (fun i H x H' => H' = H ∧ xs[xs.length - 1 - i]? = some x) ?_ (fun H2 s2 => SqT.of (s2 _ _ h1)) (com h2)⟩⟩
      rw [List.length_reverse, ← dva_len h2]
      exact ⟨fun i H hi z => ⟨hi, xs, xs[xs.length - 1 - i]'(by omega), z, by simp [show xs.length - 1 - i < xs.length by omega]⟩, fun _ _ => Nat.le_refl _, fun _ _ _ _ _ z y => ⟨y.1, y.2 xs z⟩⟩
  | _ => exact False.elim p1
end
/-! ### comprehensions -/
def wipeD (ρ : List (Option Sl)) : List Nat → List (Option Sl)
  | [] => ρ
  | v :: vs => setS (wipeD ρ vs) v none
theorem wipeD_len (ρ : List (Option Sl)) : ∀ vs, (wipeD ρ vs).length = ρ.length
  | [] => rfl
  | v :: vs => by rw [wipeD, setS_len, wipeD_len ρ vs]
theorem getS_wipe {ρ : List (Option Sl)} : ∀ {vs : List Nat} {i : Nat} {s : Sl}, getS (wipeD ρ vs) i = some s → i ∉ vs ∧ getS ρ i = some s
  | [], _, _, h => ⟨by simp, h⟩
  | v :: vs, i, s, h => by
    rcases getS_setS h with ⟨_, h, _⟩ | ⟨e, h⟩
    · cases h
    · obtain ⟨h1, h2⟩ := getS_wipe h
      exact ⟨by simp [e, h1], h2⟩
theorem wipe_get {σ : L2.St} {i : Nat} : ∀ {vs : List Nat}, i ∉ vs → (wipe σ vs)[i]? = σ[i]?
  | [], _ => rfl
  | v :: vs, h => by
    simp only [List.mem_cons, not_or] at h
    unfold wipe
    rw [List.getElem?_set_ne (Ne.symm h.1), wipe_get h.2]
theorem wipe_off {σ σ' : L2.St} : ∀ {vs : List Nat}, Off vs σ σ' → wipe σ' vs = wipe σ vs := fun {vs} h => by
  have aux : ∀ (us : List Nat) (τ : L2.St) (i : Nat), i ∈ us → i < τ.length → (wipe τ us)[i]? = some none := by
    intro us τ i
    induction us with
    | nil => intro hi; cases hi
    | cons u us ih =>
      intro hi hl
      unfold wipe
      by_cases e : u = i
      · subst e; rw [List.getElem?_set_self (by rw [wipe_length]; exact hl)]
      · rw [List.getElem?_set_ne e]
        rcases List.mem_cons.mp hi with z | z
        · exact absurd z.symm e
        · exact ih z hl
  refine List.ext_getElem? fun i => ?_
  by_cases hi : i ∈ vs
  · by_cases hl : i < σ.length
    · rw [aux vs σ i hi hl, aux vs σ' i hi (by rw [h.1]; exact hl)]
    · rw [List.getElem?_eq_none (by rw [wipe_length, h.1]; omega), List.getElem?_eq_none (by rw [wipe_length]; omega)]
  · rw [wipe_get hi, wipe_get hi]; exact h.2 i hi
section
variable {kk : Dek} {W : Wd kk} {K : PySem.W.Frag} {G H : Hp} {σ σ' : L2.St} {S : Ds}
theorem Rep.off (R : Rep W K G H σ' S) {vs : List Nat} (o : Off vs σ σ') : Rep W K G H σ ⟨wipeD S.ρ vs, S.dr⟩ := by
  refine ⟨R.gh, R.bg, R.fr, R.nw, by rw [wipeD_len, ← R.len, o.1], fun i s e => ?_, fun i j d e a hij q1 q2 q3 q4 => ?_, R.dk⟩
  · obtain ⟨h1, h2⟩ := getS_wipe e
    obtain ⟨v, ev, ok⟩ := R.sl i s h2
    exact ⟨v, by rw [← o.2 i h1]; exact ev, ok⟩
  · obtain ⟨h1, h2⟩ := getS_wipe q1
    obtain ⟨h3, h4⟩ := getS_wipe q2
    rw [← o.2 i h1] at q3
    rw [← o.2 j h3] at q4
    exact R.ap i j d e a hij h2 h4 q3 q4
theorem off_wipe (σ : L2.St) (vs : List Nat) : Off vs (wipe σ vs) σ := ⟨by rw [wipe_length], fun i h => (wipe_get h).symm⟩
theorem off_wipe' (σ : L2.St) (vs : List Nat) : Off vs σ (wipe σ vs) := ⟨by rw [wipe_length], fun i h => wipe_get h⟩
/-- the slots of a comprehension's own names as they were ahead of it -/
def back (ρ0 ρ : List (Option Sl)) : List Nat → List (Option Sl)
  | [] => ρ
  | v :: vs => match getS ρ0 v with
    | some (.v d) => setS (back ρ0 ρ vs) v (some (.v d))
    | _ => back ρ0 ρ vs
theorem Rep.putV (R : Rep W K G H σ S) {i : Nat} {v : V} {d : D} (dv : Dv K G v d) (e : σ[i]? = some (some v)) : Rep W K G H σ ⟨setS S.ρ i (some (.v d)), S.dr⟩ := by
  have := R.setV (i := i) dv
  have e2 : σ.set i (some v) = σ := by
    refine List.ext_getElem? fun j => ?_
    by_cases h : j = i
    · subst h; rw [List.getElem?_set_self (List.getElem?_eq_some_iff.mp e).1, e]
    · rw [List.getElem?_set_ne (Ne.symm h)]
  rw [e2] at this
  exact this
theorem Rep.back {G0 H0 : Hp} {S0 : Ds} (R0 : Rep W K G0 H0 σ S0) (g : Same G0 G) (R : Rep W K G H σ S) : ∀ vs : List Nat, Rep W K G H σ ⟨Dl.back S0.ρ S.ρ vs, S.dr⟩
  | [] => R
  | v :: vs => by
    have ih := Rep.back R0 g R vs
    unfold Dl.back
    cases e : getS S0.ρ v with
    | none => exact ih
    | some s =>
      cases s with
      | o d => exact ih
      | v d =>
        obtain ⟨x, ex, dv⟩ := R0.sl v _ e
        exact ih.putV (Dv.up g _ _ dv) ex
/-- another thing that stays -/
def Wd.plus (W : Wd kk) (D : Addr) (o : HO) (h : D ∉ kk.dk) : Wd kk := ⟨W.B, upd W.F D o, W.bd, fun a m => by rw [upd_ne (fun e => h (by rw [← e]; exact m))]; exact W.fd a m⟩
theorem Rep.plus (R : Rep W K G H σ S) {D : Addr} {o : HO} (f : Frsh W G D) (no : NoOwn σ S D) (e : H D = some o) : Rep (W.plus D o f.d) K G H σ S := by
  refine ⟨R.gh, R.bg, fun a u h => ?_, fun a u h => ?_, R.len, fun i s q => ?_, R.ap, R.dk⟩
  · have h : upd W.F D o a = some u := h
    by_cases z : a = D
    · subst z; rw [upd_same] at h; cases h; exact e
    · rw [upd_ne z] at h; exact R.fr a u h
  · rcases R.nw a u h with z | ⟨z, m⟩
    · exact .inl z
    · refine .inr ⟨?_, m⟩
      show upd W.F D o a = none
      rw [upd_ne (fun q => by rw [q, f.g] at h; cases h)]; exact z
  · obtain ⟨v, ev, ok⟩ := R.sl i s q
    refine ⟨v, ev, ?_⟩
    cases s with
    | v d => exact ok
    | o d =>
      obtain ⟨a, rfl, f', o'⟩ := ok
      refine ⟨a, rfl, ⟨f'.g, ?_, f'.d⟩, o'⟩
      show upd W.F D o a = none
      rw [upd_ne (fun z => no i d q (by rw [← z]; exact ev))]; exact f'.f
theorem Rep.less {D : Addr} {o : HO} {h : D ∉ kk.dk} (n : W.F D = none) (nb : W.B D = none) (R : Rep (W.plus D o h) K G H σ S) : Rep W K G H σ S ∧ Frsh W G D ∧ NoOwn σ S D ∧ H D = some o := by
  have fu : ∀ a, upd W.F D o a = none → W.F a = none := fun a z => by
    by_cases q : a = D
    · rw [q]; exact n
    · rw [upd_ne q] at z; exact z
  have gD : G D = none := by
    cases q : G D with
    | none => rfl
    | some u =>
      rcases R.nw D u q with z | ⟨z, _⟩
      · have z : W.B D = some u := z
        rw [nb] at z; cases z
      · have z : upd W.F D o D = none := z
        rw [upd_same] at z; cases z
  refine ⟨⟨R.gh, R.bg, fun a u q => R.fr a u ?_, fun a u q => (R.nw a u q).imp id fun ⟨z, m⟩ => ⟨fu a z, m⟩, R.len, fun i s q => ?_, R.ap, R.dk⟩, ⟨gD, n, h⟩, fun i d q z => ?_, R.fr D o upd_same⟩
  · show upd W.F D o a = some u
    rw [upd_ne (fun z => by rw [z, n] at q; cases q)]; exact q
  · obtain ⟨v, ev, ok⟩ := R.sl i s q
    refine ⟨v, ev, ?_⟩
    cases s with
    | v d => exact ok
    | o d =>
      obtain ⟨a, rfl, f', o'⟩ := ok
      exact ⟨a, rfl, ⟨f'.g, fu a f'.f, f'.d⟩, o'⟩
  · obtain ⟨v, ev, a, ea, f', o'⟩ := R.sl i _ q
    rw [ev] at z
    cases z
    cases ea
    have z : upd W.F D o D = none := f'.f
    rw [upd_same] at z; cases z
end
def lcL (vs : List Nat) (g : DGT) (tt : DTT) (te : DT) (P : D → Ds → Prop) : List D → List D → Ds → Prop
  | [], acc, S => P (.lst acc) S
  | d :: ds, acc, S => g d ⟨wipeD S.ρ vs, S.dr⟩ fun S2 => tt S2 fun b S3 => onT b (te S3 fun y S4 => acc.length < sizeLine ∧ lcL vs g tt te P ds (acc ++ [y]) ⟨wipeD S4.ρ vs, S4.dr⟩) (lcL vs g tt te P ds acc ⟨wipeD S3.ρ vs, S3.dr⟩)
def dLc (ti : DIT) (g : DGT) (tt : DTT) (te : DT) (vs : List Nat) : DT := fun S P => ti S fun ds S1 => lcL vs g tt te (fun d S2 => P d ⟨Dl.back S1.ρ S2.ρ vs, S2.dr⟩) ds [] ⟨wipeD S1.ρ vs, S1.dr⟩
/-- a comprehension whose turns change nothing -/
theorem lcL_pure {vs : List Nat} {g : DGT} {tt : DTT} {te : DT} {P : D → Ds → Prop} {S : Ds} (f : D → Option D) : ∀ (ds acc : List D), (∀ d ∈ ds, ∀ (A : D → Ds → Prop) (B : Ds → Prop), (∀ S' : Ds, (⟨wipeD S'.ρ vs, S'.dr⟩ : Ds) = S → match f d with
    | some y => A y S'
    | none => B S') → g d ⟨wipeD S.ρ vs, S.dr⟩ fun S2 => tt S2 fun b S3 => onT b (te S3 A) (B S3)) → acc.length + ds.length ≤ sizeLine → P (.lst (acc ++ ds.filterMap f)) S → lcL vs g tt te P ds acc S
  | [], acc, _, _, h => by rw [List.filterMap_nil, List.append_nil] at h; exact h
  | d :: ds, acc, st, hz, h => by
    rw [List.length_cons] at hz
    unfold lcL
    refine st d (List.mem_cons_self ..) _ _ fun S' e => ?_
    cases q : f d with
    | some y =>
      rw [List.filterMap_cons_some q] at h
      refine ⟨by omega, ?_⟩
      rw [e]
      refine lcL_pure f ds (acc ++ [y]) (fun d hd => st d (List.mem_cons_of_mem _ hd)) (by rw [List.length_append]; simp only [List.length_cons, List.length_nil]; omega) ?_
      rw [List.append_assoc]; exact h
    | none =>
      rw [List.filterMap_cons_none q] at h
      show lcL vs g tt te P ds acc _
      rw [e]
      exact lcL_pure f ds acc (fun d hd => st d (List.mem_cons_of_mem _ hd)) (by omega) h
/-- .. without a test -/
theorem lcL_map {vs : List Nat} {g : DGT} {te : DT} {P : D → Ds → Prop} {S : Ds} (f : D → D) (ds : List D) (st : ∀ d ∈ ds, ∀ (A : D → Ds → Prop), (∀ S' : Ds, (⟨wipeD S'.ρ vs, S'.dr⟩ : Ds) = S → A (f d) S') → g d ⟨wipeD S.ρ vs, S.dr⟩ fun S2 => te S2 A) (hz : ds.length ≤ sizeLine) (h : P (.lst (ds.map f)) S) :
    lcL vs g (fun S P => P true S) te P ds [] S :=
  lcL_pure (fun d => some (f d)) ds [] (fun d hd A B q => st d hd A fun S' e => q S' e) (by simpa using hz) (by rw [List.filterMap_eq_map']; exact h)
def dYes : DTT := fun S P => P true S
def DTs {kk : Dek} (X : Cx) (W : Wd kk) (ifs : List Expr) (t : DTT) : Prop := PTs X ifs (liftT W X.K t)
section
variable {kk : Dek} {X : Cx} {W : Wd kk}
theorem dts_nil : DTs X W [] dYes := ⟨fun pins s σ H Q I ⟨G, S, P, R, p, q⟩ => (pts_nil (X := X)).run pins s σ H Q I (q true S p H G (Same.refl _) R)⟩
theorem dts_one {c : Expr} {t : DTT} (h : DTe X W c t) : DTs X W [c] t := pts_one h
theorem Rep.wrD {K : PySem.W.Frag} {G H : Hp} {σ : L2.St} {S : Ds} {D : Addr} {u : HO} (R : Rep W K G H σ S) (f : Frsh W G D) (no : NoOwn σ S D) : Rep W K G (upd H D u) σ S := by
  refine ⟨fun b v q => ?_, R.bg, fun b v q => ?_, R.nw, R.len, fun j s q => ?_, R.ap, W.st _ _ _ R.dk fun b m => upd_ne fun q => f.d (by rw [← q]; exact m)⟩
  · rw [upd_ne (ne_of_none q f.g)]; exact R.gh b v q
  · rw [upd_ne (ne_of_none q f.f)]; exact R.fr b v q
  · obtain ⟨v', e1, ok⟩ := R.sl j s q
    refine ⟨v', e1, ?_⟩
    cases s with
    | v _ => exact ok
    | o d2 =>
      obtain ⟨b, rfl, f', o'⟩ := ok
      exact ⟨b, rfl, f', o'.up (Same.refl _) (upd_ne fun z => no j d2 q (by rw [← z]; exact e1))⟩
theorem getS_back {ρ0 ρ : List (Option Sl)} {i : Nat} {d : D} : ∀ {vs : List Nat}, getS (Dl.back ρ0 ρ vs) i = some (.o d) → getS ρ i = some (.o d)
  | [], h => h
  | v :: vs, h => by
    unfold Dl.back at h
    split at h
    · rcases getS_setS h with ⟨_, h, _⟩ | ⟨_, h⟩
      · cases h
      · exact getS_back h
    · exact getS_back h
theorem Off.refl' (is : List Nat) (σ : L2.St) : Off is σ σ := ⟨rfl, fun _ _ => rfl⟩
theorem off_sub {is js : List Nat} {σ σ' : L2.St} (o : Off is σ σ') (h : ∀ i ∈ is, i ∈ js) : Off js σ σ' := ⟨o.1, fun i hi => o.2 i fun q => hi (h i q)⟩
/-- over some world -/
def anyG (kk : Dek) (K : PySem.W.Frag) (is : List Nat) (g : DGT) : TG := fun v σ H Q => ∃ W : Wd kk, liftG W K is g v σ H Q
def anyT (kk : Dek) (K : PySem.W.Frag) (t : DTT) : TT := fun σ H Q => ∃ W : Wd kk, liftT W K t σ H Q
def anyE (kk : Dek) (K : PySem.W.Frag) (t : DT) : TE := fun σ H Q => ∃ W : Wd kk, lift W K t σ H Q
theorem pg_anyG {tg : Expr} {is : List Nat} {g : DGT} (h : ∀ W : Wd kk, DG X W tg is g) : PG X tg (anyG kk X.K is g) := ⟨fun pins s σ H v u Q I r ⟨W, q⟩ => (h W).run pins s σ H v u Q I r q⟩
theorem pt_anyT {ifs : List Expr} {t : DTT} (h : ∀ W : Wd kk, DTs X W ifs t) : PTs X ifs (anyT kk X.K t) := ⟨fun pins s σ H Q I ⟨W, q⟩ => (h W).run pins s σ H Q I q⟩
theorem pe_anyE {e : Expr} {t : DT} (h : ∀ W : Wd kk, DE X W e t) : PE X e (anyE kk X.K t) := ⟨fun pins s σ H Q I ⟨W, q⟩ => (h W).run pins s σ H Q I q⟩
theorem lift_lc {own is : List Nat} {wi : DIT} {g : DGT} {tt : DTT} {te : DT} (hsub : ∀ i ∈ is, i ∈ own) (σ : L2.St) (H : Hp) (Q : VK) (h : liftO W X.K (dLc wi g tt te own) σ H Q) :
    tLc (liftI W X.K wi) (anyG kk X.K is g) (anyT kk X.K tt) (anyE kk X.K te) own σ H Q := by
  obtain ⟨G, S, P, R, p, q⟩ := h
  refine ⟨G, S, _, R, p, fun ds S1 p1 H1 G1 s1 R1 J Gd Y wk gd yl D hD => ?_⟩
  obtain ⟨R1', f1, no1⟩ := R1.fresh (u := .lst []) hD
  have hDk : D ∉ kk.dk := f1.d
  refine lc_it wk (fun i H2 => ∃ G2 S2 acc xs, Same G1 G2 ∧ Rep W X.K G2 H2 σ S2 ∧ Frsh W G2 D ∧ NoOwn σ S2 D ∧ H2 D = some (.lst xs) ∧ DvAll X.K G2 xs acc ∧ lcL own g tt te (fun d S2 => P d ⟨Dl.back S1.ρ S2.ρ own, S2.dr⟩) (ds.drop i) acc S2)
    ⟨G1, _, [], [], Same.refl _, R1'.off (Off.refl' own σ), f1, fun i d q => no1 i d (getS_wipe q).2, upd_same, .nil, by rw [List.drop_zero]; exact p1⟩ (fun i H2 _ ⟨G2, S2, acc, xs, s2, R2, _⟩ => gd H2 (s2.trans R2.gh)) ?_ ?_
  · rintro i x H2 H3 hi ⟨G2, S2, acc, xs, s2, R2, f2, no2, e2, dv2, p2⟩ y
    obtain ⟨d, ed, co⟩ := yl i H2 x H3 hi y
    have nB : W.B D = none := R2.bg.free f2.g
    obtain ⟨G3, s3, R3, d3⟩ := co (W.plus D (.lst xs) hDk) G2 σ S2 s2 (R2.plus f2 no2 e2)
    rw [drop_cons ed] at p2
    refine ⟨W.plus D (.lst xs) hDk, G3, _, d, _, R3.off (off_wipe σ own), d3, p2, fun S4 p4 σ4 H4 G4 s4 R4 o4 => ?_⟩
    have o4' : Off own (wipe σ own) σ4 := off_sub o4 hsub
    have w4 : wipe σ4 own = wipe σ own := by
      rw [wipe_off o4', wipe_off (off_wipe' σ own)]
    have offσ : Off own σ σ4 := ⟨by rw [o4'.1, wipe_length], fun j hj => (o4'.2 j hj).trans (wipe_get hj)⟩
    refine ⟨w4, W.plus D (.lst xs) hDk, G4, S4, _, R4, p4, fun b S5 p5 H5 G5 s5 R5 => ?_⟩
    have sG : Same G2 G5 := s3.trans (s4.trans s5)
    cases b with
    | true =>
      refine iteT ?_
      refine ⟨W.plus D (.lst xs) hDk, G5, S5, _, R5, p5, fun dy S6 ⟨hz, p6⟩ yv H6 G6 s6 R6 d6 => ?_⟩
      obtain ⟨R6', f6, no6, e6⟩ := Rep.less f2.f nB (R6.off offσ)
      refine ⟨xs, e6, by rw [dva_len dv2]; exact hz, G6, _, acc ++ [dy], xs ++ [yv], s2.trans (sG.trans s6), R6'.wrD f6 no6, f6, no6, upd_same, dva_app (DvAll.up (sG.trans s6) _ _ dv2) (.cons d6 .nil), p6⟩
    | false =>
      refine iteF ?_
      obtain ⟨R6', f6, no6, e6⟩ := Rep.less f2.f nB (R5.off offσ)
      exact ⟨G5, _, acc, xs, s2.trans sG, R6', f6, no6, e6, DvAll.up sG _ _ dv2, p5⟩
  · rintro H2 ⟨G2, S2, acc, xs, s2, R2, f2, no2, e2, dv2, p2⟩
    rw [List.drop_length] at p2
    exact q _ _ p2 D H2 G2 (s1.trans s2) (Rep.back R1 s2 R2 own) f2 ⟨xs, e2, dv2⟩ fun i d e => no2 i d (getS_back e)
/-- [elt for target in iter if ..] -/
theorem do_lc {elt tg iter : Expr} {ifs : List Expr} {scope : Scope} {own : List (Str × Nat)} {is : List Nat} {pos : Pos} {wi : DIT} {g : DGT} {tt : DTT} {te : DT} (hc : X.calm = true) (hN : X.N.Nodup) (hi : DI X W tg iter wi) (ok : BlkOk X.N X.env.scope scope own)
    (hg : ∀ (s : Shared) (H : Hp) (C : Addr) (cl : List (Str × Addr)) (fp : List Addr) (W' : Wd kk), DG (X.blk s H scope (compEnvC scope cl C X.env) fp) W' tg is g)
    (ht : ∀ (s : Shared) (H : Hp) (C : Addr) (cl : List (Str × Addr)) (fp : List Addr) (W' : Wd kk), DTs (X.blk s H scope (compEnvC scope cl C X.env) fp) W' ifs tt)
    (he : ∀ (s : Shared) (H : Hp) (C : Addr) (cl : List (Str × Addr)) (fp : List Addr) (W' : Wd kk), DE (X.blk s H scope (compEnvC scope cl C X.env) fp) W' elt te) (hsub : ∀ i ∈ is, i ∈ own.map (·.2) := by decide) (hs : ∀ x, foldedSetIterable iter X.env x = pure x := by intro _; rfl) :
    DO X W (.ListComp elt [⟨tg, iter, ifs, 0⟩] scope pos) (dLc wi g tt te (own.map (·.2))) :=
  pe_imp (pe_lc hc hN hi ok (fun s H C cl fp => pg_anyG (hg s H C cl fp)) (fun s H C cl fp => pt_anyT (ht s H C cl fp)) (fun s H C cl fp => pe_anyE (he s H C cl fp)) hs) fun σ H Q h => lift_lc hsub σ H Q h
end
end Dl
namespace Dl
open PySem PySem.Spec PyProof.Rows L2 Sw
/-! ### data that == and repr take -/
mutual
def toPy : D → PyData
  | .non => .none
  | .bl b => .bool b
  | .int i => .int i
  | .str z => .str z
  | .lst ds => .list (toPys ds)
  | .tup ds => .tuple (toPys ds)
  | .dk _ _ => .none
  | .dt _ _ => .none
  | .ins _ _ _ => .none
  | .at _ => .none
def toPys : List D → List PyData
  | [] => []
  | d :: ds => toPy d :: toPys ds
end
mutual
def pureD : D → Bool
  | .non => true
  | .bl _ => true
  | .int _ => true
  | .str _ => true
  | .lst ds => pureDs ds
  | .tup ds => pureDs ds
  | .dk _ _ => false
  | .dt _ _ => false
  | .ins _ _ _ => false
  | .at _ => false
def pureDs : List D → Bool
  | [] => true
  | d :: ds => pureD d && pureDs ds
end
theorem toPys_map : ∀ ds : List D, toPys ds = ds.map toPy
  | [] => rfl
  | d :: ds => by rw [toPys, toPys_map ds]; rfl
theorem pureDs_all : ∀ ds : List D, pureDs ds = ds.all pureD
  | [] => rfl
  | d :: ds => by rw [pureDs, pureDs_all ds]; rfl
mutual
theorem Dv.dp {K : PySem.W.Frag} {G : Hp} : ∀ (d : D) (v : V), pureD d = true → Dv K G v d → Dp K G v (toPy d)
  | .non, _, _, h => by cases h; exact .non
  | .bl _, _, _, h => by cases h; exact .bl _
  | .int _, _, _, h => by cases h; exact .int _
  | .str _, _, _, h => by cases h; exact .str _
  | .lst ds, _, p, h => by cases h with | lst h1 h2 => exact .lst (SqL.of h1) (DvAll.dps ds _ p h2)
  | .tup ds, _, p, h => by cases h with | tup h1 h2 => exact .tup (SqT.of h1) (DvAll.dps ds _ p h2)
  | .dk _ _, _, p, _ => by cases p
  | .dt _ _, _, p, _ => by cases p
  | .ins _ _ _, _, p, _ => by cases p
  | .at _, _, p, _ => by cases p
theorem DvAll.dps {K : PySem.W.Frag} {G : Hp} : ∀ (ds : List D) (vs : List V), pureDs ds = true → DvAll K G vs ds → DpAll K G vs (toPys ds)
  | [], _, _, h => by cases h; exact .nil
  | d :: ds, _, p, h => by
    obtain ⟨p1, p2⟩ := Bool.and_eq_true_iff.mp (show (pureD d && pureDs ds) = true from p)
    cases h with | cons h1 h2 => exact .cons (Dv.dp d _ p1 h1) (DvAll.dps ds _ p2 h2)
end
structure GoodD (d : D) : Prop where
  p : pureD d = true
  g : Good (toPy d)
section
variable {kk : Dek} {X : Cx} {W : Wd kk}
/-! ### + - * // % -/
def dAdd (x y : D) (P : D → Prop) : Prop := match x, y with
  | .int i, .int j => P (.int (i + j))
  | .str a, .str b => a.length + b.length ≤ sizeLine ∧ P (.str (a ++ b))
  | .tup a, .tup b => a.length + b.length ≤ sizeLine ∧ P (.tup (a ++ b))
  | .lst a, .lst b => a.length + b.length ≤ sizeLine ∧ P (.lst (a ++ b))
  | _, _ => False
theorem len_nil {α β : Type} {l : List α} {m : List β} (h : l.length = m.length) (e : l = []) : m = [] := List.eq_nil_of_length_eq_zero (by rw [← h, e]; rfl)
theorem do_op_add : DOp X W (binaryOp .Add) dAdd := by
  refine ⟨_, ((op_add (X := X)).or op_add_str).or ((op_catA (X := X)).or op_cat), fun G H σ S v w x y P Q R hv hw h q => ?_⟩
  cases x with
  | int i =>
    cases y with
    | int j => cases hv; cases hw; exact .inl (.inl ⟨i, j, rfl, rfl, q _ h _ H G (Same.refl _) R (.int _)⟩)
    | _ => exact h.elim
  | str a =>
    cases y with
    | str b => cases hv; cases hw; exact .inl (.inr ⟨a, b, rfl, rfl, h.1, q _ h.2 _ H G (Same.refl _) R (.str _)⟩)
    | _ => exact h.elim
  | tup a =>
    cases y with
    | tup b =>
      cases hv with
      | @tup pa xs _ h1 h2 =>
        cases hw with
        | @tup pb ys _ h3 h4 =>
          refine .inr (.inl ⟨pa, pb, xs, ys, rfl, rfl, SqT.of (R.gh _ _ h1), SqT.of (R.gh _ _ h3), by rw [dva_len h2, dva_len h4]; exact h.1, fun e => ?_, fun _ e => ?_, fun _ _ p hp => ?_⟩)
          · have ea := len_nil (dva_len h2) e
            subst ea
            exact q _ h.2 _ H G (Same.refl _) R (.tup h3 h4)
          · have eb := len_nil (dva_len h4) e
            subst eb
            have hp : P (.tup (a ++ [])) := h.2
            rw [List.append_nil] at hp
            exact q _ hp _ H G (Same.refl _) R (.tup h1 h2)
          · have g := same_upd (o := .tup (xs ++ ys)) (R.gh.free hp)
            exact q _ h.2 _ _ _ g (R.new hp) (.tup upd_same (DvAll.up g _ _ (dva_app h2 h4)))
    | _ => exact h.elim
  | lst a =>
    cases y with
    | lst b =>
      cases hv with
      | @lst pa xs _ h1 h2 =>
        cases hw with
        | @lst pb ys _ h3 h4 =>
          refine .inr (.inr ⟨pa, pb, xs, ys, rfl, rfl, R.gh _ _ h1, R.gh _ _ h3, by rw [dva_len h2, dva_len h4]; exact h.1, fun p hp => ?_⟩)
          have g := same_upd (o := .lst (xs ++ ys)) (R.gh.free hp)
          exact q _ h.2 _ _ _ g (R.new hp) (.lst upd_same (DvAll.up g _ _ (dva_app h2 h4)))
    | _ => exact h.elim
  | _ => exact h.elim
/-- two ints -/
def dII (C : Int → Int → Prop) (g : Int → Int → D) (x y : D) (P : D → Prop) : Prop := match x, y with
  | .int i, .int j => C i j ∧ P (g i j)
  | _, _ => False
theorem do_ii {f : Value → Value → Sem Value} {C : Int → Int → Prop} {g : Int → Int → Int} (h : OpR X f (rI C fun i j => .int (g i j))) : DOp X W f (dII C fun i j => .int (g i j)) := by
  refine ⟨_, h, fun G H σ S v w x y P Q R hv hw h q => ?_⟩
  cases x with
  | int i =>
    cases y with
    | int j => cases hv; cases hw; exact ⟨i, j, rfl, rfl, h.1, q _ h.2 _ H G (Same.refl _) R (.int _)⟩
    | _ => exact h.elim
  | _ => exact h.elim
theorem do_ii0 {f : Value → Value → Sem Value} {g : Int → Int → Int} (h : OpR X f (rI0 fun i j => .int (g i j))) : DOp X W f (dII (fun _ _ => True) fun i j => .int (g i j)) := by
  refine ⟨_, h, fun G H σ S v w x y P Q R hv hw h q => ?_⟩
  cases x with
  | int i =>
    cases y with
    | int j => cases hv; cases hw; exact ⟨i, j, rfl, rfl, q _ h.2 _ H G (Same.refl _) R (.int _)⟩
    | _ => exact h.elim
  | _ => exact h.elim
theorem do_op_sub : DOp X W (binaryOp .Sub) (dII (fun _ _ => True) fun i j => .int (i - j)) := do_ii0 op_sub
theorem do_op_mod : DOp X W (binaryOp .Mod) (dII (fun _ j => 0 < j) fun i j => .int (i % j)) := do_ii op_mod
theorem do_op_fdiv : DOp X W (binaryOp .FloorDiv) (dII CDiv fun i j => .int (i / j)) := do_ii op_fdiv
/-- a list times a number; ints -/
def dMul (x y : D) (P : D → Prop) : Prop := match x, y with
  | .int i, .int j => CMul i j ∧ P (.int (i * j))
  | .lst a, .int j => (0 ≤ j ∧ j ≤ 1000 ∧ a.length ≤ 1000) ∧ P (.lst (List.replicate j.toNat a).flatten)
  | _, _ => False
theorem dva_rep {K : PySem.W.Frag} {G : Hp} {xs : List V} {ds : List D} (h : DvAll K G xs ds) : ∀ n : Nat, DvAll K G (List.replicate n xs).flatten (List.replicate n ds).flatten
  | 0 => .nil
  | n + 1 => by
    rw [List.replicate_succ, List.replicate_succ, List.flatten_cons, List.flatten_cons]
    exact dva_app h (dva_rep h n)
theorem do_op_mul : DOp X W (binaryOp .Mult) dMul := by
  refine ⟨_, (op_mul (X := X)).or op_rep, fun G H σ S v w x y P Q R hv hw h q => ?_⟩
  cases x with
  | int i =>
    cases y with
    | int j => cases hv; cases hw; exact .inl ⟨i, j, rfl, rfl, h.1, q _ h.2 _ H G (Same.refl _) R (.int _)⟩
    | _ => exact h.elim
  | lst a =>
    cases y with
    | int j =>
      cases hw
      cases hv with
      | @lst pa xs _ h1 h2 =>
        obtain ⟨⟨b1, b2, b3⟩, p⟩ := h
        have l := dva_len h2
        refine .inr ⟨pa, j, xs, rfl, rfl, R.gh _ _ h1, by omega, by omega, ?_, fun p' hp => ?_⟩
        · have : xs.length * j.toNat ≤ 1000 * 1000 := Nat.mul_le_mul (by omega) (by omega)
          have := line_big
          omega
        · have g := same_upd (o := .lst (List.replicate j.toNat xs).flatten) (R.gh.free hp)
          exact q _ p _ _ _ g (R.new hp) (.lst upd_same (DvAll.up g _ _ (dva_rep h2 _)))
    | _ => exact h.elim
  | _ => exact h.elim
def dNeg (t : DT) : DT := fun S P => t S fun x S1 => match x with
  | .int i => P (.int (-i)) S1
  | _ => False
theorem de_neg {a : Expr} {ta : DT} {pos : Pos} (ha : DE X W a ta) : DE X W (.UnaryOp .USub a pos) (dNeg ta) := by
  refine pe_imp (pe_un un_neg ha) fun σ H Q ⟨G, S, P, R, p, q⟩ => ⟨G, S, _, R, p, fun x S1 p1 v H1 G1 s1 R1 d1 => ?_⟩
  cases x with
  | int i => cases d1; exact ⟨i, rfl, q _ S1 p1 _ H1 G1 s1 R1 (.int _)⟩
  | _ => exact False.elim p1
/-! ### comparisons -/
def strLt (a b : Str) : Bool := decide (a.cps.toList < b.cps.toList)
def dCmp (fi : Int → Int → Bool) (fs : Str → Str → Bool) (x y : D) (P : D → Prop) : Prop := match x, y with
  | .int i, .int j => P (.bl (fi i j))
  | .str a, .str b => P (.bl (fs a b))
  | _, _ => False
theorem do_cmp {f : Value → Value → Sem Value} {fi : Int → Int → Bool} {fs : Str → Str → Bool} (h1 : OpR X f (rI0 fun i j => .bl (fi i j))) (h2 : OpR X f (fun x y H Q => ∃ i j, x = .str i ∧ y = .str j ∧ Q (.bl (fs i j)) H)) : DOpB X W f (dCmp fi fs) := by
  refine ⟨_, h1.or h2, fun G H σ S v w x y P Q R hv hw h q => ?_⟩
  cases x with
  | int i =>
    cases y with
    | int j => cases hv; cases hw; exact .inl ⟨i, j, rfl, rfl, q _ h⟩
    | _ => exact h.elim
  | str i =>
    cases y with
    | str j => cases hv; cases hw; exact .inr ⟨i, j, rfl, rfl, q _ h⟩
    | _ => exact h.elim
  | _ => exact h.elim
theorem do_lt : DOpB X W (compareOp .Lt) (dCmp (fun i j => decide (i < j)) strLt) := do_cmp op_lt op_lt_str
theorem do_le : DOpB X W (compareOp .LtE) (dCmp (fun i j => decide (i ≤ j)) fun a b => !strLt b a) := do_cmp op_le op_le_str
theorem do_gt : DOpB X W (compareOp .Gt) (dCmp (fun i j => decide (j < i)) fun a b => strLt b a) := do_cmp op_gt op_gt_str
theorem do_ge : DOpB X W (compareOp .GtE) (dCmp (fun i j => decide (j ≤ i)) fun a b => !strLt a b) := do_cmp op_ge op_ge_str
/-- ==: ints, texts, bools, None; anything else that is good data -/
def eqD (x y : D) : Bool := PyData.eqv (toPy x) (toPy y)
def dEqF (f : Bool → Bool) (x y : D) (P : D → Prop) : Prop := match x, y with
  | .int i, .int j => P (.bl (f (decide (i = j))))
  | .str i, .str j => P (.bl (f (decide (i = j))))
  | .bl i, .bl j => P (.bl (f (decide (i = j))))
  | .non, .non => P (.bl (f true))
  | .int _, .str _ => P (.bl (f false))
  | .str _, .int _ => P (.bl (f false))
  | .non, .int _ => P (.bl (f false))
  | .int _, .non => P (.bl (f false))
  | .non, .str _ => P (.bl (f false))
  | .str _, .non => P (.bl (f false))
  | x, y => GoodD x ∧ GoodD y ∧ P (.bl (f (eqD x y)))
abbrev dEq := dEqF id
abbrev dNe := dEqF (!·)
theorem dvI {K : PySem.W.Frag} {G : Hp} {v : V} {i : Int} (h : Dv K G v (.int i)) : v = .int i := by cases h; rfl
theorem dvS {K : PySem.W.Frag} {G : Hp} {v : V} {i : Str} (h : Dv K G v (.str i)) : v = .str i := by cases h; rfl
theorem dvB {K : PySem.W.Frag} {G : Hp} {v : V} {i : Bool} (h : Dv K G v (.bl i)) : v = .bl i := by cases h; rfl
theorem dvN {K : PySem.W.Frag} {G : Hp} {v : V} (h : Dv K G v .non) : v = .non := by cases h; rfl
theorem eq_core {f : Bool → Bool} {K : PySem.W.Frag} {G H : Hp} {v w : V} {x y : D} {P : D → Prop} {Q : VK} (hGH : Same G H) (hv : Dv K G v x) (hw : Dv K G w y) (h : dEqF f x y P) (q : ∀ b, P (.bl b) → Q (.bl b) H) :
    (scal v w = true ∧ Q (.bl (f (decide (v = w)))) H) ∨ ∃ d e, Dp K H v d ∧ Dp K H w e ∧ Good d ∧ Good e ∧ Q (.bl (f (PyData.eqv d e))) H := by
  unfold dEqF at h
  split at h
  · rw [dvI hv, dvI hw, dec_int]
    exact .inl ⟨rfl, by rw [Bool.beq_eq_decide_eq]; exact q _ h⟩
  · rw [dvS hv, dvS hw, dec_str]
    exact .inl ⟨rfl, by rw [Bool.beq_eq_decide_eq]; exact q _ h⟩
  · rw [dvB hv, dvB hw, dec_bl]
    exact .inl ⟨rfl, by rw [Bool.beq_eq_decide_eq]; exact q _ h⟩
  · rw [dvN hv, dvN hw]
    exact .inl ⟨rfl, q _ h⟩
  · rw [dvI hv, dvS hw]
    exact .inl ⟨rfl, q _ h⟩
  · rw [dvS hv, dvI hw]
    exact .inl ⟨rfl, q _ h⟩
  · rw [dvN hv, dvI hw]
    exact .inl ⟨rfl, q _ h⟩
  · rw [dvI hv, dvN hw]
    exact .inl ⟨rfl, q _ h⟩
  · rw [dvN hv, dvS hw]
    exact .inl ⟨rfl, q _ h⟩
  · rw [dvS hv, dvN hw]
    exact .inl ⟨rfl, q _ h⟩
  · obtain ⟨g1, g2, h⟩ := h
    exact .inr ⟨_, _, dp_same hGH _ _ (Dv.dp _ _ g1.p hv), dp_same hGH _ _ (Dv.dp _ _ g2.p hw), g1.g, g2.g, q _ h⟩
theorem do_eq (hu : X.A.units + 64 < cLine) : DOpB X W (compareOp .Eq) dEq :=
  ⟨_, (op_eq (X := X)).or (op_eqG hu), fun G H σ S v w x y P Q R hv hw h q => eq_core (f := id) R.gh hv hw h q⟩
theorem do_ne (hu : X.A.units + 64 < cLine) : DOpB X W (compareOp .NotEq) dNe :=
  ⟨_, (op_ne (X := X)).or (op_neG hu), fun G H σ S v w x y P Q R hv hw h q => eq_core (f := (!·)) R.gh hv hw h q⟩
/-- is None -/
def isNon : D → Bool
  | .non => true
  | _ => false
def dIs (f : Bool → Bool) (x y : D) (P : D → Prop) : Prop := match x, y with
  | .at _, _ => False
  | x, .non => P (.bl (f (isNon x)))
  | _, _ => False
theorem is_core {f : Bool → Bool} {K : PySem.W.Frag} {G H : Hp} {v w : V} {x y : D} {P : D → Prop} {Q : VK} (hv : Dv K G v x) (hw : Dv K G w y) (h : dIs f x y P) (q : ∀ b, P (.bl b) → Q (.bl b) H) : w = .non ∧ Q (.bl (f (decide (v = .non)))) H := by
  cases y with
  | non =>
    cases hw
    refine ⟨rfl, ?_⟩
    cases x with
    | «at» _ => exact h.elim
    | _ => cases hv <;> exact q _ h
  | _ => cases x <;> exact h.elim
theorem do_is : DOpB X W (compareOp .Is) (dIs id) := ⟨_, op_isN, fun G H σ S v w x y P Q R hv hw h q => is_core (f := id) hv hw h q⟩
theorem do_isnot : DOpB X W (compareOp .IsNot) (dIs (!·)) := ⟨_, op_notN, fun G H σ S v w x y P Q R hv hw h q => is_core (f := (!·)) hv hw h q⟩
/-! ### len, isinstance, repr, all, any -/
def dLen (ds : List D) (P : D → Prop) : Prop := match ds with
  | [.str z] => z.length ≤ sizeLine ∧ P (.int (z.length : Nat))
  | [.lst a] => P (.int (a.length : Nat))
  | [.tup a] => P (.int (a.length : Nat))
  | _ => False
theorem dc_len : DCal X W (.builtin "len") dLen := by
  refine ⟨_, call_len, fun G H σ S vs ds P Q R hv h q => ?_⟩
  match ds, hv, h with
  | [.str z], .cons (.str _) .nil, h => exact ⟨_, _, rfl, ⟨h.1, rfl⟩, q _ h.2 _ H G (Same.refl _) R (.int _)⟩
  | [.lst a], .cons (.lst h1 h2) .nil, h => exact ⟨_, _, rfl, .inl ⟨_, SqL.of (R.gh _ _ h1), rfl⟩, by rw [dva_len h2]; exact q _ h _ H G (Same.refl _) R (.int _)⟩
  | [.tup a], .cons (.tup h1 h2) .nil, h => exact ⟨_, _, rfl, .inr ⟨_, SqT.of (R.gh _ _ h1), rfl⟩, by rw [dva_len h2]; exact q _ h _ H G (Same.refl _) R (.int _)⟩
def tyD : D → Option String
  | .non => some "NoneType"
  | .bl _ => some "bool"
  | .int _ => some "int"
  | .str _ => some "str"
  | .lst _ => some "list"
  | .tup _ => some "tuple"
  | .dk _ _ => some "dict"
  | .dt _ _ => some "dict"
  | .ins _ _ _ => none
  | .at _ => none
theorem tyX_of {K : PySem.W.Frag} {G H : Hp} {v : V} {d : D} {n : String} (e : tyD d = some n) (g : Same G H) (h : Dv K G v d) : TyX K H v (.type n) := by
  cases d with
  | non => cases e; cases h; exact .base .non
  | bl _ => cases e; cases h; exact .base (.bl _)
  | int _ => cases e; cases h; exact .base (.int _)
  | str _ => cases e; cases h; exact .base (.str _)
  | lst _ => cases e; cases h with | lst h1 _ => exact .base (.lst (g _ _ h1))
  | tup _ =>
    cases e
    cases h with
    | tup h1 _ =>
      exact .base (.tup (g _ _ h1))
  | dk _ _ => cases e; cases h with | dk h1 _ => exact .base (.dK (g _ _ h1))
  | dt _ _ => cases e; cases h with | dt h1 _ => exact .base (.dT (g _ _ h1))
  | ins _ _ _ => cases e
  | «at» _ => cases e
def isIntD : D → Option Bool
  | .int _ => some true
  | .bl _ => some true
  | .ins _ _ _ => none
  | .at _ => none
  | _ => some false
def isBoolD : D → Option Bool
  | .bl _ => some true
  | .ins _ _ _ => none
  | .at _ => none
  | _ => some false
def isStrD : D → Option Bool
  | .str _ => some true
  | .ins _ _ _ => none
  | .at _ => none
  | _ => some false
def isTupD : D → Option Bool
  | .tup _ => some true
  | .ins _ _ _ => none
  | .at _ => none
  | _ => some false
def isLstD : D → Option Bool
  | .lst _ => some true
  | .ins _ _ _ => none
  | .at _ => none
  | _ => some false
def dIsi (f : D → Option Bool) (T : String) (ds : List D) (P : D → Prop) : Prop := match ds with
  | [d, .at (.ty T')] => T' = T ∧ match f d with
    | some b => P (.bl b)
    | none => False
  | _ => False
theorem dc_isi {f : D → Option Bool} {T : String} (hf : ∀ d b, f d = some b → ∃ n, tyD d = some n ∧ kitB n T = some b) : DCal X W (.builtin "isinstance") (dIsi f T) := by
  refine ⟨_, call_isi, fun G H σ S vs ds P Q R hv h q => ?_⟩
  match ds, hv, h with
  | [d, .at (.ty T')], .cons h1 (.cons (.at _) .nil), ⟨e, hh⟩ =>
    subst e
    cases e2 : f d with
    | none => rw [e2] at hh; exact hh.elim
    | some b =>
      rw [e2] at hh
      have h := hh
      obtain ⟨n, en, ek⟩ := hf d b e2
      exact ⟨_, .ty T', _, _, b, rfl, .ty _, tyX_of en R.gh h1, kit_ty ek, q _ h _ H G (Same.refl _) R (.bl _)⟩
theorem kit_all : ∀ s ∈ ["NoneType", "bool", "int", "str", "list", "tuple", "dict"], kitB s "int" = some (s == "int" || s == "bool") ∧ kitB s "bool" = some (s == "bool") ∧ kitB s "str" = some (s == "str") ∧ kitB s "tuple" = some (s == "tuple") ∧ kitB s "list" = some (s == "list") := by decide +kernel
theorem dc_isInt : DCal X W (.builtin "isinstance") (dIsi isIntD "int") := dc_isi fun d b e => by cases d <;> cases e <;> exact ⟨_, rfl, (kit_all _ (by simp)).1⟩
theorem dc_isBool : DCal X W (.builtin "isinstance") (dIsi isBoolD "bool") := dc_isi fun d b e => by cases d <;> cases e <;> exact ⟨_, rfl, (kit_all _ (by simp)).2.1⟩
theorem dc_isStr : DCal X W (.builtin "isinstance") (dIsi isStrD "str") := dc_isi fun d b e => by cases d <;> cases e <;> exact ⟨_, rfl, (kit_all _ (by simp)).2.2.1⟩
theorem dc_isTup : DCal X W (.builtin "isinstance") (dIsi isTupD "tuple") := dc_isi fun d b e => by cases d <;> cases e <;> exact ⟨_, rfl, (kit_all _ (by simp)).2.2.2.1⟩
theorem dc_isLst : DCal X W (.builtin "isinstance") (dIsi isLstD "list") := dc_isi fun d b e => by cases d <;> cases e <;> exact ⟨_, rfl, (kit_all _ (by simp)).2.2.2.2⟩
def isiP (r : Option Bool) (k : Bool → Prop) : Prop := match r with
  | some b => k b
  | none => False
def dIsiE (f : D → Option Bool) (te : DT) : DT := fun S P => te S fun x S1 => isiP (f x) fun b => P (.bl b) S1
theorem de_isi {f : D → Option Bool} {T : String} {x : Str} {p pos : Pos} {e c : Expr} {te : DT} (hc : DCal X W (.builtin "isinstance") (dIsi f T)) (hg : Gl X x) (hm : X.mg x = none) (hv : bootBuiltins x = some (.builtin "isinstance")) (he : DE X W e te) (ht : DE X W c (dC (.at (.ty T))))
    (hn : x ≠ "__name__" := by decide) (hdb : (x == ("__debug__" : Str)) = false := by decide) (hs : starEach [e, c] X.env = (false, eval e X.env) :: starEach [c] X.env := by rfl) (hs2 : starEach [c] X.env = (false, eval c X.env) :: starEach [] X.env := by rfl)
    (hpl : (backTo pos (starEach [c] X.env)).any (·.1) = false := by rfl) : DE X W (.Call (.Name x p) [e, c] [] pos) (dIsiE f te) := by
  refine pe_imp (de_callB hc hg hm hv (da_cons he (da_cons ht da_nil hs2) hs) hn hdb hs hpl) fun σ H Q ⟨G, S, P, R, p, q⟩ => ?_
  refine ⟨G, S, P, R, ?_, q⟩
  have mono : dCB (dIsi f T) (dCons te (dCons (dC (.at (.ty T))) dNil)) S P = (te S fun x S1 => (T = T ∧ match f x with
    | some b => P (.bl b) S1
    | none => False)) := rfl
  rw [mono]
  have e2 : (fun x (S1 : Ds) => (T = T ∧ match f x with
    | some b => P (.bl b) S1
    | none => False)) = fun x S1 => isiP (f x) fun b => P (.bl b) S1 := by
    funext x S1
    unfold isiP
    simp
  rw [e2]
  exact p
def dRepr (ds : List D) (P : D → Prop) : Prop := match ds with
  | [d] => GoodD d ∧ P (.str (toPy d).shown)
  | _ => False
theorem dc_repr (hG : X.A.guards = some []) (hu : X.A.units + 64 < cLine) : DCal X W (.builtin "repr") dRepr := by
  refine ⟨_, call_rp hG hu, fun G H σ S vs ds P Q R hv h q => ?_⟩
  match ds, hv, h with
  | [d], .cons h1 .nil, ⟨g, h⟩ => exact ⟨_, _, rfl, dp_same R.gh _ _ (Dv.dp _ _ g.p h1), g.g, q _ h _ H G (Same.refl _) R (.str _)⟩
/-- a list of bools -/
def boolsOf : List D → Option (List Bool)
  | [] => some []
  | .bl b :: ds => match boolsOf ds with
    | some bs => some (b :: bs)
    | none => none
  | _ => none
theorem bools_vals {K : PySem.W.Frag} {G : Hp} : ∀ {ds : List D} {vs : List V} {bs : List Bool}, boolsOf ds = some bs → DvAll K G vs ds → vs = bs.map V.bl
  | [], _, _, e, .nil => by cases e; rfl
  | .bl b :: ds, _, bs, e, .cons h t => by
    cases h
    unfold boolsOf at e
    cases e2 : boolsOf ds with
    | none => rw [e2] at e; cases e
    | some l => rw [e2] at e; cases e; rw [bools_vals e2 t]; rfl
theorem boolsOf_map : ∀ l : List Bool, boolsOf (l.map D.bl) = some l
  | [] => rfl
  | b :: l => by rw [List.map_cons, boolsOf, boolsOf_map l]
def dBools (f : List Bool → Bool) (ds : List D) (P : D → Prop) : Prop := match ds with
  | [.lst a] => match boolsOf a with
    | some bs => P (.bl (f bs))
    | none => False
  | _ => False
theorem dc_all (hc : X.calm = true) : DCal X W (.builtin "all") (dBools fun l => l.all id) := by
  refine ⟨_, cr_all hc, fun G H σ S vs ds P Q R hv h q => ?_⟩
  match ds, hv, h with
  | [.lst a], .cons (.lst h1 h2) .nil, h =>
    unfold dBools at h
    simp only at h
    split at h
    · rename_i bs e
      have := bools_vals e h2
      subst this
      exact ⟨_, bs, rfl, SqL.of (R.gh _ _ h1), q _ h _ H G (Same.refl _) R (.bl _)⟩
    · exact h.elim
theorem dc_any (hc : X.calm = true) : DCal X W (.builtin "any") (dBools fun l => l.any id) := by
  refine ⟨_, cr_any hc, fun G H σ S vs ds P Q R hv h q => ?_⟩
  match ds, hv, h with
  | [.lst a], .cons (.lst h1 h2) .nil, h =>
    unfold dBools at h
    simp only at h
    split at h
    · rename_i bs e
      have := bools_vals e h2
      subst this
      exact ⟨_, bs, rfl, SqL.of (R.gh _ _ h1), q _ h _ H G (Same.refl _) R (.bl _)⟩
    · exact h.elim
/-- tuple(x), list(x) -/
def dTuple (ds : List D) (P : D → Prop) : Prop := match ds with
  | [.lst a] => P (.tup a)
  | [.tup a] => P (.tup a)
  | _ => False
theorem dc_tuple : DCal X W (.type "tuple") dTuple := by
  refine ⟨_, call_tuple_of, fun G H σ S vs ds P Q R hv h q => ?_⟩
  match ds, hv, h with
  | [.lst a], .cons (@Dv.lst _ _ pa xs _ h1 h2) .nil, h =>
    refine ⟨_, _, rfl, .inl ⟨SqL.of (R.gh _ _ h1), fun p hp => ?_⟩⟩
    have g := same_upd (o := .tup xs) (R.gh.free hp)
    exact q _ h _ _ _ g (R.new hp) (.tup upd_same (DvAll.up g _ _ h2))
  | [.tup a], .cons (@Dv.tup _ _ pa xs _ h1 h2) .nil, h => exact ⟨_, _, rfl, .inr ⟨SqT.of (R.gh _ _ h1), q _ h _ H G (Same.refl _) R (.tup h1 h2)⟩⟩
def dList (ds : List D) (P : D → Prop) : Prop := match ds with
  | [.lst a] => P (.lst a)
  | [.tup a] => P (.lst a)
  | _ => False
theorem dc_list : DCalO X W (.type "list") dList := by
  refine ⟨_, call_list_of, fun G H σ S vs ds P Q R hv h q => ?_⟩
  match ds, hv, h with
  | [.lst a], .cons (@Dv.lst _ _ pa xs _ h1 h2) .nil, h =>
    refine ⟨_, _, rfl, .inl (SqL.of (R.gh _ _ h1)), fun p hp => ?_⟩
    obtain ⟨R2, f, no⟩ := R.fresh (u := .lst xs) hp
    exact q _ h p _ G (Same.refl _) R2 f ⟨xs, upd_same, h2⟩ no
  | [.tup a], .cons (@Dv.tup _ _ pa xs _ h1 h2) .nil, h =>
    refine ⟨_, _, rfl, .inr (SqT.of (R.gh _ _ h1)), fun p hp => ?_⟩
    obtain ⟨R2, f, no⟩ := R.fresh (u := .lst xs) hp
    exact q _ h p _ G (Same.refl _) R2 f ⟨xs, upd_same, h2⟩ no
def dIntC (ds : List D) (P : D → Prop) : Prop := match ds with
  | [.int i] => P (.int i)
  | [.bl b] => P (.int (if b = true then 1 else 0))
  | _ => False
theorem dc_int : DCal X W (.type "int") dIntC := by
  refine ⟨_, call_int1, fun G H σ S vs ds P Q R hv h q => ?_⟩
  match ds, hv, h with
  | [.int i], .cons (.int _) .nil, h => exact .inl ⟨i, rfl, q _ h _ H G (Same.refl _) R (.int _)⟩
  | [.bl b], .cons (.bl _) .nil, h => exact .inr ⟨b, rfl, q _ h _ H G (Same.refl _) R (.int _)⟩
/-! ### x[i], x[i:j], x[::-1] -/
def ixD (x y : D) : Option D := match x, y with
  | .lst a, .int i => atI a i
  | .tup a, .int i => atI a i
  | .str z, .int i => (atI z.cps.toList i).map fun c => .str (chr c)
  | _, _ => none
def dIx (ta tb : DT) : DT := fun S P => ta S fun x S1 => tb S1 fun y S2 => (∀ z, x = .str z → z.length ≤ sizeLine) ∧ match ixD x y with
  | some d => P d S2
  | none => False
theorem atI_dv {K : PySem.W.Frag} {G : Hp} {xs : List V} {ds : List D} {i : Int} {d : D} (h : DvAll K G xs ds) (e : atI ds i = some d) : ∃ v, atI xs i = some v ∧ Dv K G v d := by
  unfold atI at e ⊢
  rw [dva_len h]
  cases q : ixN ds.length i with
  | none => rw [q] at e; cases e
  | some j =>
    rw [q] at e
    exact dva_get' h e
theorem de_ix {a b : Expr} {ta tb : DT} {pos : Pos} (ha : DE X W a ta) (hb : DE X W b tb) (hs : PlainIx b) : DE X W (.Subscript a b pos) (dIx ta tb) := by
  refine pe_imp (pe_ix ix_seq ha hb hs) fun σ H Q ⟨G, S, P, R, p, q⟩ => ?_
  refine ⟨G, S, _, R, p, fun x S1 p1 v H1 G1 s1 R1 d1 => ⟨G1, S1, _, R1, p1, fun y S2 ⟨hz, p2⟩ w H2 G2 s2 R2 d2 => ?_⟩⟩
  cases e : ixD x y with
  | none => rw [e] at p2; exact p2.elim
  | some d =>
    rw [e] at p2
    have d1 := Dv.up s2 _ _ d1
    cases x with
    | lst ds =>
      cases y with
      | int i =>
        cases d2
        cases d1 with
        | lst h1 h2 =>
          obtain ⟨u, eu, du⟩ := atI_dv h2 e
          exact .inl ⟨_, _, i, u, rfl, rfl, SqL.of (R2.gh _ _ h1), eu, q _ S2 p2 u H2 G2 (s1.trans s2) R2 du⟩
      | _ => cases e
    | tup ds =>
      cases y with
      | int i =>
        cases d2
        cases d1 with
        | tup h1 h2 =>
          obtain ⟨u, eu, du⟩ := atI_dv h2 e
          exact .inr (.inl ⟨_, _, i, u, rfl, rfl, SqT.of (R2.gh _ _ h1), eu, q _ S2 p2 u H2 G2 (s1.trans s2) R2 du⟩)
      | _ => cases e
    | str z =>
      cases y with
      | int i =>
        cases d2
        cases d1
        obtain ⟨c, ec, rfl⟩ := Option.map_eq_some_iff.mp (show (atI z.cps.toList i).map (fun c => D.str (chr c)) = some d from e)
        exact .inr (.inr ⟨z, i, c, rfl, rfl, hz z rfl, ec, q _ S2 p2 _ H2 G2 (s1.trans s2) R2 (.str _)⟩)
      | _ => cases e
    | _ => cases e
abbrev DTO := Ds → (Option Int → Ds → Prop) → Prop
def liftP {kk : Dek} (W : Wd kk) (K : PySem.W.Frag) (t : DTO) : TO := fun σ H Q => ∃ G S P, Rep W K G H σ S ∧ t S P ∧ ∀ o S', P o S' → ∀ H' G', Same G G' → Rep W K G' H' σ S' → Q o H'
def DP {kk : Dek} (X : Cx) (W : Wd kk) (e : Option Expr) (t : DTO) : Prop := PO X e (liftP W X.K t)
def dNoP : DTO := fun S P => P none S
def dP (t : DT) : DTO := fun S P => t S fun x S1 => match x with
  | .int i => P (some i) S1
  | _ => False
theorem dp_none : DP X W none dNoP := ⟨fun pins s σ H Q I ⟨G, S, P, R, p, q⟩ => po_none.run pins s σ H Q I (q none S p H G (Same.refl _) R)⟩
theorem dp_some {e : Expr} {t : DT} (h : DE X W e t) : DP X W (some e) (dP t) := by
  refine ⟨fun pins s σ H Q I ⟨G, S, P, R, p, q⟩ => (po_some h).run pins s σ H Q I ⟨G, S, _, R, p, fun x S1 p1 v H1 G1 s1 R1 d1 => ?_⟩⟩
  cases x with
  | int i => cases d1; exact ⟨i, rfl, q _ S1 p1 H1 G1 s1 R1⟩
  | _ => exact False.elim p1
def cutD {α : Type} (xs : List α) (lo hi : Option Int) : List α := (xs.drop (HT.sIx xs.length 0 lo)).take (HT.sIx xs.length xs.length hi - HT.sIx xs.length 0 lo)
theorem cutD_dv {K : PySem.W.Frag} {G : Hp} {xs : List V} {ds : List D} {lo hi : Option Int} (h : DvAll K G xs ds) : DvAll K G (cutV xs lo hi) (cutD ds lo hi) := by
  unfold cutV cutD
  rw [dva_len h]
  exact dva_take _ (dva_drop _ h)
def slD (x : D) (lo hi : Option Int) (P : D → Prop) : Prop := match x with
  | .lst a => P (.lst (cutD a lo hi))
  | .tup a => P (.tup (cutD a lo hi))
  | .str z => z.length ≤ sizeLine ∧ P (.str (cutS z lo hi))
  | _ => False
def dSl (ta : DT) (tl th : DTO) : DT := fun S P => ta S fun x S1 => tl S1 fun lo S2 => th S2 fun hi S3 => slD x lo hi fun d => P d S3
theorem cut_whole {α : Type} {xs : List α} {lo hi : Option Int} (h : HT.sIx xs.length 0 lo = 0 ∧ HT.sIx xs.length xs.length hi = xs.length) : cutD xs lo hi = xs := by
  unfold cutD
  rw [h.1, h.2, List.drop_zero, Nat.sub_zero, List.take_length]
theorem de_sl {e : Expr} {te : DT} {lo hi : Option Expr} {tl th : DTO} {pos p2 : Pos} (he : DE X W e te) (hl : DP X W lo tl) (hu : DP X W hi th) : DE X W (.Subscript e (.Slice lo hi none p2) pos) (dSl te tl th) := by
  refine pe_imp (pe_slice (sl_list.or (sl_tupA.or sl_str)) he hl hu) fun σ H Q ⟨G, S, P, R, p, q⟩ => ?_
  refine ⟨G, S, _, R, p, fun x S1 p1 v H1 G1 s1 R1 d1 => ⟨G1, S1, _, R1, p1, fun l S2 p2 H2 G2 s2 R2 => ⟨G2, S2, _, R2, p2, fun u S3 p3 H3 G3 s3 R3 => ?_⟩⟩⟩
  have d1 := Dv.up (s2.trans s3) _ _ d1
  have s13 := s1.trans (s2.trans s3)
  cases x with
  | lst ds =>
    cases d1 with
    | @lst a xs _ h1 h2 =>
      refine .inl ⟨_, _, rfl, SqL.of (R3.gh _ _ h1), fun p hp => ?_⟩
      have g := same_upd (o := .lst (cutV xs l u)) (R3.gh.free hp)
      exact q _ S3 p3 _ _ _ (s13.trans g) (R3.new hp) (.lst upd_same (DvAll.up g _ _ (cutD_dv h2)))
  | tup ds =>
    cases d1 with
    | @tup a xs _ h1 h2 =>
      refine .inr (.inl ⟨_, _, rfl, SqT.of (R3.gh _ _ h1), fun w => ?_, fun _ p hp => ?_⟩)
      · rw [dva_len h2] at w
        have p3 : P (.tup (cutD ds l u)) S3 := p3
        rw [cut_whole w] at p3
        exact q _ S3 p3 _ H3 G3 s13 R3 (.tup h1 h2)
      · have g := same_upd (o := .tup (cutV xs l u)) (R3.gh.free hp)
        exact q _ S3 p3 _ _ _ (s13.trans g) (R3.new hp) (.tup upd_same (DvAll.up g _ _ (cutD_dv h2)))
  | str z =>
    cases d1
    exact .inr (.inr ⟨z, rfl, p3.1, q _ S3 p3.2 _ H3 G3 s13 R3 (.str _)⟩)
  | _ => exact p3.elim
end
end Dl
namespace Dl
open PySem PySem.Spec PyProof.Rows L2 Sw
section
variable {kk : Dek} {X : Cx} {W : Wd kk} {a b e : Expr} {es : List Expr} {ta tb te : DT} {pos apos cpos : Pos}
theorem dn (i : Nat) {x : Str} (hN : X.N[i]? = some x := by rfl) (hv : Vis X.env.scope x := by first | exact .inl rfl | exact .inr (.inl rfl) | exact .inr (.inr rfl)) (hd : (x == ("__debug__" : Str)) = false := by decide) (hcd : (x == ("__classdict__" : Str)) = false := by decide) :
    DE X W (.Name x pos) (dVar i) := de_var hN hv hd hcd
/-- a built-in class as a value -/
theorem dty {T : String} {x : Str} (hg : Gl X x) (hm : X.mg x = none) (hv : bootBuiltins x = some (.type T)) (hn : x ≠ "__name__" := by decide) (hd : (x == ("__debug__" : Str)) = false := by decide) : DE X W (.Name x pos) (dC (.at (.ty T))) :=
  de_at (pe_bltn (v := .ty T) hg hm hv rfl hn hd)
/-! ### a, b = x, y -/
def dPar (i j : Nat) (t : DTA) : DST := fun E S => t S fun ds S1 => match ds with
  | [x, y] => E.nx ⟨setS (setS S1.ρ i (some (.v x))) j (some (.v y)), S1.dr⟩
  | _ => False
theorem ds_par {i j : Nat} {x y : Str} {ta : DTA} {px py pt : Pos} {kt k2 pt2} (hc : X.calm = true) (hN : X.N.Nodup) (hi : X.N[i]? = some x) (hj : X.N[j]? = some y) (hij : i ≠ j)
    (hx : X.env.scope.names.lookup x = some .local) (hy : X.env.scope.names.lookup y = some .local) (ha : DA X W [a, b] ta)
    (h : ∀ {t : TA}, PA X [a, b] t → PS X (.Assign [.Tuple [.Name x px, .Name y py] kt pt] (.Tuple [a, b] k2 pt2) pos) (tPar i j t)) : DS X W (.Assign [.Tuple [.Name x px, .Name y py] kt pt] (.Tuple [a, b] k2 pt2) pos) (dPar i j ta) := by
  refine ps_imp (h ha) fun N σ H ⟨G, S, E, R, p, ok⟩ => ⟨G, S, _, R, p, fun ds S1 p1 vs H1 G1 s1 R1 d1 => ?_⟩
  match ds, d1, p1 with
  | [x, y], .cons h1 (.cons h2 .nil), p1 => exact ⟨_, _, rfl, ok.nx _ _ H1 G1 s1 p1 ((R1.setV h1).setV h2)⟩
/-! ### while -/
def whL (c : DTT) (tb : DST) (E : DEnds) : Nat → Ds → Prop
  | 0, _ => False
  | n + 1, S => c S fun b S1 => onT b (tb { E with nx := whL c tb E n, ct := whL c tb E n, bk := E.nx } S1) (E.nx S1)
def dWhile (c : DTT) (tb : DST) : DST := fun E S => ∃ n, whL c tb E n S
theorem ds_while {c : Expr} {body : List Stmt} {tc : DTT} {tb : DST} (hp : PassesOwn (model X.prog X.w) X.A X.env X.xe) (hc : DTe X W c tc) (hb : DSs X W body tb) : DS X W (.While c body [] pos) (dWhile tc tb) := by
  refine ps_imp (ps_while hp hc hb) fun N σ H ⟨G, S, E, R, ⟨n, p⟩, ok⟩ => ?_
  refine ⟨fun m σ H => ∃ G1 S1, Same G G1 ∧ Rep W X.K G1 H σ S1 ∧ whL tc tb E m S1, ⟨n, G, S, Same.refl _, R, p⟩, ?_⟩
  rintro m σ1 H1 ⟨G1, S1, s1, R1, p1⟩
  cases m with
  | zero => exact p1.elim
  | succ m =>
    refine ⟨G1, S1, _, R1, p1, fun b S2 p2 H2 G2 s2 R2 => ?_⟩
    cases b with
    | true =>
      refine iteT ⟨fun σ' H' => ∃ G1 S1, Same G G1 ∧ Rep W X.K G1 H' σ' S1 ∧ whL tc tb E m S1, fun σ' H' h => ⟨m, Nat.lt_succ_self _, h⟩, ?_⟩
      have k2 := ok.up (s1.trans s2)
      exact ⟨G2, S2, _, R2, p2, ⟨fun S5 σ5 H5 G5 z n R5 => ⟨_, S5, (s1.trans s2).trans z, R5, n⟩, k2.rt, fun S5 σ5 H5 G5 z n R5 => k2.nx S5 σ5 H5 G5 z n R5, fun S5 σ5 H5 G5 z n R5 => ⟨_, S5, (s1.trans s2).trans z, R5, n⟩⟩⟩
    | false => exact iteF (ok.nx S2 σ1 H2 G2 (s1.trans s2) p2 R2)
/-! ### the list that a slot owns -/
def ownL (S : Ds) (i : Nat) : Option (List D) := match getS S.ρ i with
  | some (.o (.lst ds)) => some ds
  | _ => none
def putO (S : Ds) (i : Nat) (d : D) : Ds := ⟨setS S.ρ i (some (.o d)), S.dr⟩
theorem own_at {K : PySem.W.Frag} {G H : Hp} {σ : L2.St} {S : Ds} {i : Nat} {ds : List D} (R : Rep W K G H σ S) (h : ownL S i = some ds) : ∃ a xs, getS S.ρ i = some (.o (.lst ds)) ∧ σ[i]? = some (some (.ref a)) ∧ Frsh W G a ∧ H a = some (.lst xs) ∧ DvAll K G xs ds := by
  unfold ownL at h
  split at h
  · rename_i e
    cases h
    obtain ⟨v, ev, a, rfl, f, xs, o1, o2⟩ := R.sl i _ e
    exact ⟨a, xs, e, ev, f, o1, o2⟩
  · cases h
def dAppend (i : Nat) (te : DT) : DT := fun S P => (ownL S i).isSome = true ∧ te S fun d S1 => match ownL S1 i with
  | some ds => ds.length < sizeLine ∧ P .non (putO S1 i (.lst (ds ++ [d])))
  | none => False
theorem de_append {x : Str} {i : Nat} {p1 : Pos} (hn : PE X (.Name x p1) (tVar i)) (he : DE X W e te)
    (h : ∀ {to : TE} {t : TA}, PE X (.Name x p1) to → PA X [e] t → PE X (.Call (.Attribute (.Name x p1) "append" apos) [e] [] cpos) (tBM X.K "list" rAppend to t)) (hs : starEach [e] X.env = (false, eval e X.env) :: starEach [] X.env := by rfl) :
    DE X W (.Call (.Attribute (.Name x p1) "append" apos) [e] [] cpos) (dAppend i te) := by
  refine pe_imp (h hn (pa_cons he pa_nil hs)) fun σ H Q ⟨G, S, P, R, ⟨o0, p⟩, q⟩ => ?_
  obtain ⟨ds0, e0⟩ := Option.isSome_iff_exists.mp o0
  obtain ⟨a, xs, _, ev, f, o1, o2⟩ := own_at R e0
  refine ⟨_, ev, .inl ⟨rfl, xs, SqL.of o1⟩, G, S, _, R, p, fun d S1 p1 v H1 G1 s1 R1 d1 => ?_⟩
  cases e1 : ownL S1 i with
  | none => rw [e1] at p1; exact p1.elim
  | some ds =>
    rw [e1] at p1
    obtain ⟨a', ys, g1, ev', f', o1', o2'⟩ := own_at R1 e1
    rw [ev] at ev'
    cases ev'
    exact ⟨a, ys, v, rfl, rfl, o1', by rw [dva_len o2']; exact p1.1, q _ _ p1.2 _ _ G1 s1 (R1.wrO g1 ev f' ⟨_, upd_same, dva_app o2' (.cons d1 .nil)⟩) .non⟩
def dExtend (i : Nat) (te : DT) : DT := fun S P => (ownL S i).isSome = true ∧ te S fun d S1 => match ownL S1 i, d with
  | some ds, .lst es => ds.length + es.length ≤ sizeLine ∧ P .non (putO S1 i (.lst (ds ++ es)))
  | _, _ => False
theorem de_extend {x : Str} {i : Nat} {p1 : Pos} (hn : PE X (.Name x p1) (tVar i)) (he : DE X W e te)
    (h : ∀ {to : TE} {t : TA}, PE X (.Name x p1) to → PA X [e] t → PE X (.Call (.Attribute (.Name x p1) "extend" apos) [e] [] cpos) (tBM X.K "list" rExtend to t)) (hs : starEach [e] X.env = (false, eval e X.env) :: starEach [] X.env := by rfl) :
    DE X W (.Call (.Attribute (.Name x p1) "extend" apos) [e] [] cpos) (dExtend i te) := by
  refine pe_imp (h hn (pa_cons he pa_nil hs)) fun σ H Q ⟨G, S, P, R, ⟨o0, p⟩, q⟩ => ?_
  obtain ⟨ds0, e0⟩ := Option.isSome_iff_exists.mp o0
  obtain ⟨a, xs, _, ev, f, o1, o2⟩ := own_at R e0
  refine ⟨_, ev, .inl ⟨rfl, xs, SqL.of o1⟩, G, S, _, R, p, fun d S1 p1 v H1 G1 s1 R1 d1 => ?_⟩
  cases e1 : ownL S1 i with
  | none => rw [e1] at p1; exact p1.elim
  | some ds =>
    rw [e1] at p1
    cases d with
    | lst es =>
      cases d1 with
      | @lst b zs _ k1 k2 =>
        obtain ⟨a', ys, g1, ev', f', o1', o2'⟩ := own_at R1 e1
        rw [ev] at ev'
        cases ev'
        exact ⟨a, b, ys, zs, rfl, rfl, o1', R1.gh _ _ k1, by rw [dva_len o2', dva_len k2]; exact p1.1, q _ _ p1.2 _ _ G1 s1 (R1.wrO g1 ev f' ⟨_, upd_same, dva_app o2' k2⟩) .non⟩
    | _ => exact p1.elim
def dPop (i : Nat) : DT := fun S P => match ownL S i with
  | some ds => match ds.getLast? with
    | some d => P d (putO S i (.lst ds.dropLast))
    | none => False
  | none => False
theorem dva_dropLast {K : PySem.W.Frag} {G : Hp} : ∀ {vs : List V} {ds : List D}, DvAll K G vs ds → DvAll K G vs.dropLast ds.dropLast
  | _, _, .nil => .nil
  | _, _, .cons _ .nil => .nil
  | _, _, .cons h (.cons h2 t) => .cons h (dva_dropLast (.cons h2 t))
theorem de_pop {x : Str} {i : Nat} {p1 : Pos} (hn : PE X (.Name x p1) (tVar i))
    (h : ∀ {to : TE}, PE X (.Name x p1) to → PE X (.Call (.Attribute (.Name x p1) "pop" apos) [] [] cpos) (tBM0 X.K "list" rPop to)) : DE X W (.Call (.Attribute (.Name x p1) "pop" apos) [] [] cpos) (dPop i) := by
  refine pe_imp (h hn) fun σ H Q ⟨G, S, P, R, p, q⟩ => ?_
  unfold dPop at p
  cases e1 : ownL S i with
  | none => rw [e1] at p; exact p.elim
  | some ds =>
    rw [e1] at p
    obtain ⟨a, xs, g1, ev, f, o1, o2⟩ := own_at R e1
    simp only at p
    split at p
    · rename_i d ed
      rw [List.getLast?_eq_getElem?] at ed
      obtain ⟨v, ev2, dv⟩ := dva_get' o2 ed
      refine ⟨_, ev, .inl ⟨rfl, xs, SqL.of o1⟩, a, xs, v, rfl, rfl, o1, by rw [dva_len o2]; exact ev2, q _ _ p _ _ G (Same.refl _) (R.wrO g1 ev f ⟨_, upd_same, dva_dropLast o2⟩) dv⟩
    · exact p.elim
/-- x[e], x an owned list -/
def dIxO (i : Nat) (tb : DT) : DT := fun S P => tb S fun y S1 => match ownL S1 i, y with
  | some ds, .int j => match atI ds j with
    | some d => P d S1
    | none => False
  | _, _ => False
theorem de_ixO {x : Str} {i : Nat} {p1 : Pos} (hn : PE X (.Name x p1) (tVar i)) (hb : DE X W b tb) (hs : PlainIx b) : DE X W (.Subscript (.Name x p1) b pos) (fun S P => (ownL S i).isSome = true ∧ dIxO i tb S P) := by
  refine pe_imp (pe_ix ix_list hn hb hs) fun σ H Q ⟨G, S, P, R, ⟨o0, p⟩, q⟩ => ?_
  obtain ⟨ds0, e0⟩ := Option.isSome_iff_exists.mp o0
  obtain ⟨a, xs, _, ev, f, o1, o2⟩ := own_at R e0
  refine ⟨_, ev, G, S, _, R, p, fun y S1 p1 v H1 G1 s1 R1 d1 => ?_⟩
  cases e1 : ownL S1 i with
  | none => rw [e1] at p1; exact p1.elim
  | some ds =>
    rw [e1] at p1
    cases y with
    | int j =>
      cases d1
      obtain ⟨a', ys, g1, ev', f', o1', o2'⟩ := own_at R1 e1
      rw [ev] at ev'
      cases ev'
      simp only at p1
      split at p1
      · rename_i d ed
        obtain ⟨u, eu, du⟩ := atI_dv o2' ed
        exact ⟨_, _, j, u, rfl, rfl, SqL.of o1', eu, q _ S1 p1 u H1 G1 s1 R1 du⟩
      · exact p1.elim
    | _ => exact p1.elim
/-- len(x), x an owned list -/
def dLenO (i : Nat) : DT := fun S P => match ownL S i with
  | some ds => P (.int (ds.length : Nat)) S
  | none => False
theorem de_lenO {x f : Str} {i : Nat} {p p1 : Pos} (hn : PE X (.Name x p1) (tVar i)) (h : ∀ {t : TA}, PA X [.Name x p1] t → PE X (.Call (.Name f p) [.Name x p1] [] pos) (tCB (fun xs H Q => ∃ p ys, xs = [V.ref p] ∧ (SqL X.K H p ys ∨ SqT X.K H p ys) ∧ Q (.int ys.length) H) t))
    (hs : starEach [.Name x p1] X.env = (false, eval (.Name x p1) X.env) :: starEach [] X.env := by rfl) : DE X W (.Call (.Name f p) [.Name x p1] [] pos) (dLenO i) := by
  refine pe_imp (h (pa_cons hn pa_nil hs)) fun σ H Q ⟨G, S, P, R, p, q⟩ => ?_
  unfold dLenO at p
  cases e1 : ownL S i with
  | none => rw [e1] at p; exact p.elim
  | some ds =>
    rw [e1] at p
    obtain ⟨a, xs, g1, ev, f, o1, o2⟩ := own_at R e1
    exact ⟨_, ev, a, xs, rfl, .inl (SqL.of o1), by rw [dva_len o2]; exact q _ S p _ H G (Same.refl _) R (.int _)⟩
end
end Dl
namespace Dl
open PySem PySem.Spec PyProof.Rows L2 Sw
/-! ### < of ints, texts, tuples of such -/
/-- data of one kind: how it stands in D -/
structure Kn (α : Type) [DecidableEq α] [PySem.W.DatumOrd α] where
  e : α → D
  p : ∀ a, pureD (e a) = true
  t : ∀ a, toPy (e a) = PySem.W.Datum.toD a
  d : PySem.W.Datum.depth α ≤ 60
def dLtK {α : Type} [DecidableEq α] [PySem.W.DatumOrd α] (κ : Kn α) (x y : D) (P : D → Prop) : Prop := ∃ a b : α, x = κ.e a ∧ y = κ.e b ∧ P (.bl (PySem.W.DatumOrd.lt a b))
theorem do_ltK {kk : Dek} {X : Cx} {W : Wd kk} {α : Type} [DecidableEq α] [PySem.W.DatumOrd α] (κ : Kn α) (hu : X.A.units + 64 < cLine) : DOpB X W (compareOp .Lt) (dLtK κ) := by
  refine ⟨_, op_ltD α hu κ.d, fun G H σ S v w x y P Q R hv hw ⟨a, b, ea, eb, h⟩ q => ?_⟩
  subst ea eb
  have h1 := dp_same R.gh _ _ (Dv.dp _ _ (κ.p a) hv)
  have h2 := dp_same R.gh _ _ (Dv.dp _ _ (κ.p b) hw)
  rw [κ.t] at h1 h2
  exact ⟨a, b, h1, h2, q _ h⟩
def knI : Kn Int := ⟨fun i => .int i, fun _ => rfl, fun _ => rfl, by decide⟩
def knS : Kn Str := ⟨fun i => .str i, fun _ => rfl, fun _ => rfl, by decide⟩
def knIS : Kn (Int × Str) := ⟨fun p => .tup [.int p.1, .str p.2], fun _ => rfl, fun _ => rfl, by decide⟩
def knISI : Kn (PySem.W.T3 Int Str Int) := ⟨fun p => .tup [.int p.1, .str p.2, .int p.3], fun _ => rfl, fun _ => rfl, by decide⟩
/-- ascending -/
def ltAt {α : Type} [DecidableEq α] [PySem.W.DatumOrd α] (as : List α) (i : Nat) : Bool := match as[i]?, as[i + 1]? with
  | some a, some b => PySem.W.DatumOrd.lt a b
  | _, _ => true
def ascB {α : Type} [DecidableEq α] [PySem.W.DatumOrd α] (as : List α) : Bool := (List.range (as.length - 1)).all fun i => ltAt as i
theorem seqLen_of {α : Type} {as : List α} {f : α → D} {d : D} (h : d = .tup (as.map f) ∨ d = .lst (as.map f)) (P : D → Prop) (p : P (.int (as.length : Nat))) : dLen [d] P := by
  rcases h with rfl | rfl
  · show P (.int ((as.map f).length : Nat)); rw [List.length_map]; exact p
  · show P (.int ((as.map f).length : Nat)); rw [List.length_map]; exact p
theorem atI_map {α : Type} {as : List α} {f : α → D} {j : Nat} {a : α} (h : as[j]? = some a) : atI (as.map f) (j : Int) = some (f a) := atI_nat (by rw [List.getElem?_map, h]; rfl)
theorem seqIx_of {α : Type} {as : List α} {f : α → D} {d : D} (h : d = .tup (as.map f) ∨ d = .lst (as.map f)) {i : Int} {j : Nat} {a : α} (ei : i = (j : Int)) (ea : as[j]? = some a) : (∀ z, d = .str z → z.length ≤ sizeLine) ∧ ixD d (.int i) = some (f a) := by
  subst ei
  rcases h with rfl | rfl
  · exact ⟨(fun z e => by cases e), atI_map ea⟩
  · exact ⟨(fun z e => by cases e), atI_map ea⟩
theorem dBools_map {f : List Bool → Bool} {l : List Bool} {P : D → Prop} (h : P (.bl (f l))) : dBools f [.lst (l.map D.bl)] P := by
  unfold dBools
  simp only
  rw [boolsOf_map]
  exact h
/-! ### any value: none, bools, ints, texts, lists, tuples, {} -/
mutual
def anyD : D → Bool
  | .non => true
  | .bl _ => true
  | .int _ => true
  | .str z => decide (z.length ≤ 1000000)
  | .lst ds => decide (ds.length ≤ 100000) && anyDs ds
  | .tup ds => decide (ds.length ≤ 100000) && anyDs ds
  | .dk ks ds => ks.isEmpty && ds.isEmpty
  | .dt _ _ => false
  | .ins _ _ _ => false
  | .at _ => false
def anyDs : List D → Bool
  | [] => true
  | d :: ds => anyD d && anyDs ds
end
theorem anyDs_all : ∀ ds : List D, anyDs ds = ds.all anyD
  | [] => rfl
  | d :: ds => by rw [anyDs, anyDs_all ds]; rfl
/-- none of the sorts that are not plain -/
def plain : D → Bool
  | .ins _ _ _ => false
  | .at _ => false
  | _ => true
theorem any_plain {d : D} (h : anyD d = true) : plain d = true := by
  cases d with
  | ins _ _ _ => exact h
  | «at» _ => exact h
  | _ => rfl
theorem any_str {z : Str} (h : anyD (.str z) = true) : z.length ≤ 1000000 := of_decide_eq_true h
theorem any_tup {ds : List D} (h : anyD (.tup ds) = true) : ds.length ≤ 100000 ∧ ∀ d ∈ ds, anyD d = true := by
  obtain ⟨h1, h2⟩ := Bool.and_eq_true_iff.mp (show (decide (ds.length ≤ 100000) && anyDs ds) = true from h)
  rw [anyDs_all] at h2
  exact ⟨of_decide_eq_true h1, List.all_eq_true.mp h2⟩
theorem any_lst {ds : List D} (h : anyD (.lst ds) = true) : ds.length ≤ 100000 ∧ ∀ d ∈ ds, anyD d = true := any_tup h
theorem any_mk {ds : List D} (h1 : ds.length ≤ 100000) (h2 : ∀ d ∈ ds, anyD d = true) : anyD (.tup ds) = true := by
  show (decide (ds.length ≤ 100000) && anyDs ds) = true
  rw [anyDs_all, decide_eq_true h1, Bool.true_and]
  exact List.all_eq_true.mpr h2
end Dl
namespace Dl
open PySem PySem.Spec PyProof.Rows L2 Sw
/-! ### dict comprehensions, keys of any kind that DPut knows -/
section
variable {X : Cx} {pl : List (Addr × Obj)} {σ : L2.St} {H H' : Hp} {s : Shared}
theorem dt_fresh {P : Program} {w : World} (G : Hp) (h : Heap) (big : sysModules < h.objs.size) : ObjOk P w G (h.push { cls := .type "dict", data := .dict #[] }) h.objs.size (.dT []) := by
  have e := dk_empty (P := P) (w := w) (H := G) h big
  exact ⟨e.1, e.2.1, [], .nil, _, #[], _, Heap.get?_push_size _ rfl, ⟨rfl, rfl, rfl⟩, rfl, rfl, .nil⟩
/-- the dict at D takes z under y -/
theorem put_ok {E : Value → Shared → Prop} {D : Addr} {y z : V} {u r : Value} {Q : Unit → Shared → Prop} (room : X.A.units < cLine) (J : Inv X pl σ H s) (p : DPut H D y z H') (ry : RelV y u) (rz : RelV z r) (k : ∀ s', Inv X pl σ H' s' → Q () s') :
    wpAny (model X.prog X.w) X.A (dictSet D u r) Q E s := by
  rcases p with ⟨kvs, key, at_, ey, few, eH⟩ | ⟨kvs, key, b, at_, ey, tup, few, eH⟩
  · subst ey eH
    exact d_dictSet J at_ few ry rz k
  · subst ey eH
    cases (id ry : u = .ref b)
    obtain ⟨l0, nm, rows, rel, of⟩ := dt_of J.hok at_
    refine wpAny_dictSet_heap (hsz := by rw [← Paired.length rel]; exact l0) (show (tupleKind (mixKind X.prog X.w)).room X.A from room) (key_of J.hok tup) of fun g of' same => k _ ?_
    have few' : (putK kvs key z).length ≤ sizeLine := Nat.le_trans (length_putK kvs key z) few
    obtain ⟨ob, es, ep, there, ex, da, en, _, nodup⟩ := of'
    refine d_write J (by rw [at_]; trivial) same ⟨ob, there⟩ ⟨few', nm, _, (rel.put key tup rz).keeps fun c ys ec => ?_, ob, es, ep, there, ex, da, en, nodup⟩
    exact (upd_ne (ne_of ec at_ fun q => nomatch q)).trans ec
/-- {k: v for target in iter if ..} by its turns: Pv i holds ahead of turn i, the new dict (o0 at first) at D within -/
def tDcP (o0 : HO) (wi : TI) (g : TG) (tt : TT) (tk tv : TE) (vs : List Nat) : TE := fun σ H Q => wi σ H fun J H1 => ∀ D, H1 D = none → ∃ (n : Nat) (Pv : Nat → Hp → Prop), Pv 0 (upd H1 D o0) ∧ (∀ G, Pv n G → J.stop n G ∧ Q (.ref D) G) ∧
  ∀ i G, i < n → Pv i G → J.go i G ∧ ∀ x G1, J.yld i G x G1 → g x (wipe σ vs) G1 fun σ2 G2 => wipe σ2 vs = wipe σ vs ∧ tt σ2 G2 fun b G3 => if b = true then tk σ2 G3 fun y G4 => tv σ2 G4 fun z G5 => ∃ G6, DPut G5 D y z G6 ∧ Pv (i + 1) G6 else Pv (i + 1) G3
theorem pe_dcP {kx vx tg iter : Expr} {ifs : List Expr} {sc : Scope} {own : List (Str × Nat)} {pos : Pos} {wi : TI} {g : TG} {tt : TT} {tk tv : TE} {o0 : HO} (ho : o0 = .dK [] ∨ o0 = .dT []) (room : X.A.units < cLine) (hc : X.calm = true) (hN : X.N.Nodup) (hi : PI X tg iter wi) (ok : BlkOk X.N X.env.scope sc own)
    (hg : ∀ (s : Shared) (H : Hp) (C : Addr) (cl : List (Str × Addr)) (fp : List Addr), PG (X.blk s H sc (compEnvC sc cl C X.env) fp) tg g) (ht : ∀ (s : Shared) (H : Hp) (C : Addr) (cl : List (Str × Addr)) (fp : List Addr), PTs (X.blk s H sc (compEnvC sc cl C X.env) fp) ifs tt)
    (hk : ∀ (s : Shared) (H : Hp) (C : Addr) (cl : List (Str × Addr)) (fp : List Addr), PE (X.blk s H sc (compEnvC sc cl C X.env) fp) kx tk)
    (he : ∀ (s : Shared) (H : Hp) (C : Addr) (cl : List (Str × Addr)) (fp : List Addr), PE (X.blk s H sc (compEnvC sc cl C X.env) fp) vx tv) (hs : ∀ x, foldedSetIterable iter X.env x = pure x := by intro _; rfl) :
    PE X (.DictComp kx vx [⟨tg, iter, ifs, 0⟩] sc pos) (tDcP o0 wi g tt tk tv (own.map (·.2))) := by
  constructor
  intro pl s σ H Q I h
  rw [arm_eval_DictComp]
  have clo : closureFor sc X.env = pure (cloFrom X.env.cells sc.names []) := closure_ok fun y hy e => I.ok.has _ ((ok.free y hy e).imp id id)
  refine wpAny_comprehension_free (use := none) rfl hs clo ok.kind (fun y hy e => (ok.uniq y hy).trans (by rw [e])) ?_
  refine thn (hi.run pl s σ H _ I h) fun _ s1 q1 => thn q1 ?_
  rintro _ s2 ⟨it, fp, tn, J, H2, rfl, I2, T, t2, f2, h2⟩
  refine wpAny_newObj_type ?_
  refine newEnv_comp ?_
  -- the new dict is tracked
  have new := I2.hok.fresh (Nat.le_refl s2.heap.objs.size)
  obtain ⟨n, Pv, p0, pEnd, pTurn⟩ := h2 _ new
  have I3 : Inv X pl σ (upd H2 s2.heap.objs.size o0) { s2 with heap := s2.heap.push { cls := .type "dict", data := .dict #[] } } := I2.laid (t' := s2.toks) (fun _ _ z => Heap.get?_push_of_some _ z) (Nat.le_refl _) (by
    rcases ho with rfl | rfl
    · exact dk_empty s2.heap I2.big
    · exact dt_fresh _ s2.heap I2.big)
  have fpOld : ∀ b ∈ fp, b < s2.heap.objs.size := fun b hb => let ⟨_, e, _⟩ := T.obj _ _ t2 b hb; Heap.lt_size e
  have fpFree : ∀ b ∈ fp, upd H2 s2.heap.objs.size o0 b = none := fun b hb => (upd_ne (Nat.ne_of_lt (fpOld b hb))).trans (f2 b hb).1
  generalize hs3 : ({ s2 with heap := s2.heap.push { cls := .type "dict", data := .dict #[] } } : Shared) = s3 at I3
  have old3 : ∀ b o, s2.heap.get? b = some o → s3.heap.get? b = some o := fun b o z => by rw [← hs3]; exact Heap.get?_push_of_some _ z
  have f3 : ∀ b ∈ fp, FpOk X pl (upd H2 s2.heap.objs.size o0) b ∧ b < s3.heap.objs.size := fun b hb => ⟨⟨fpFree b hb, (f2 b hb).2⟩, let ⟨o, e, _⟩ := T.obj _ _ t2 b hb; Heap.lt_size (old3 b o e)⟩
  have I4 := block_start (own := own) I3 ok hN f3
  generalize hD : s2.heap.objs.size = D at *
  generalize hB : upd H2 D o0 = HB at *
  show codeAny _ _ (.compStart (.DictComp kx vx [⟨tg, iter, ifs, 0⟩] sc pos) 0 (.ref it) (.ref D) (compEnvC sc (cellsFrom (s3.heap.objs.size + 1) sc.names (cloFrom X.env.cells sc.names [])) s3.heap.objs.size X.env)) (compPost (model X.prog X.w) X.A X.xe none (EP X pl σ Q) (.ref D) s3.heap.objs.size) { s3 with heap := pushCells (s3.heap.push { cls := .type "dict", data := .dict #[] }) sc.names }
  have rg := hg s3 HB s3.heap.objs.size (cellsFrom (s3.heap.objs.size + 1) sc.names (cloFrom X.env.cells sc.names [])) fp
  have rt := ht s3 HB s3.heap.objs.size (cellsFrom (s3.heap.objs.size + 1) sc.names (cloFrom X.env.cells sc.names [])) fp
  have rk := hk s3 HB s3.heap.objs.size (cellsFrom (s3.heap.objs.size + 1) sc.names (cloFrom X.env.cells sc.names [])) fp
  have rv := he s3 HB s3.heap.objs.size (cellsFrom (s3.heap.objs.size + 1) sc.names (cloFrom X.env.cells sc.names [])) fp
  have locs : (compEnvC sc (cellsFrom (s3.heap.objs.size + 1) sc.names (cloFrom X.env.cells sc.names [])) s3.heap.objs.size X.env).locals = s3.heap.objs.size := rfl
  generalize compEnvC sc (cellsFrom (s3.heap.objs.size + 1) sc.names (cloFrom X.env.cells sc.names [])) s3.heap.objs.size X.env = en at I4 rg rt rk rv locs ⊢
  generalize hs4 : ({ s3 with heap := pushCells (s3.heap.push { cls := .type "dict", data := .dict #[] }) sc.names } : Shared) = s4 at I4 ⊢
  have t4 : tn 0 s4.heap := T.keep _ _ _ t2 fun b _ o z => by rw [← hs4]; exact pushCells_keeps _ _ _ _ (Heap.get?_push_of_some _ (old3 b o z))
  have inFp : ∀ {τ : L2.St} {G : Hp} {s' : Shared}, Inv (X.blk s3 HB sc en fp) [] τ G s' → (∀ b ∈ fp, G b = none) → ∀ b ∈ fp, FpOk (X.blk s3 HB sc en fp) [] G b := fun {τ G s'} K z b hb =>
    ⟨z b hb, (K.ok.exf b hb).1, K.ok.exfs b hb, .inl hb, fun x c => (K.ok.exf b hb).2 x c, fun q hq => by cases hq⟩
  -- the loop
  have lp : codeAny (model X.prog X.w) X.A (.compLoop (.DictComp kx vx [⟨tg, iter, ifs, 0⟩] sc pos) 0 (.ref it) (.ref D) en) (compPost (model X.prog X.w) X.A X.xe none (EP X pl σ Q) (.ref D) s3.heap.objs.size) s4 := by
    refine compLoop_anyD (fun m s' => ∃ i G, m = n - i ∧ i ≤ n ∧ Inv (X.blk s3 HB sc en fp) [] (wipe σ (own.map (·.2))) G s' ∧ tn i s'.heap ∧ (∀ b ∈ fp, G b = none) ∧ Pv i G) ?_ n ⟨0, HB, rfl, Nat.zero_le _, I4, t4, fpFree, p0⟩
    rintro m s5 ⟨i, G, rfl, hle, I5, t5, f5, p5⟩
    by_cases hlt : i < n
    · obtain ⟨go, turn⟩ := pTurn i G hlt p5
      refine thnF (T.item (X.blk s3 HB sc en fp) rfl rfl rfl hc i [] s5 _ G (fun _ _ => False) I5 (inFp I5 f5) t5 go) ?_
      rintro r s6 ⟨u, rfl, h6⟩
      refine thnF h6 ?_
      rintro _ s7 ⟨x, G1, I7, r7, y7, t7, f7⟩
      have I7p := I7.pinned (inFp I7 f7) (T.obj _ _ t7)
      refine thnF (rg.run _ s7 _ G1 x u _ I7p r7 (turn x G1 y7)) ?_
      rintro _ s8 ⟨τ, G2, I8, wp, q8⟩
      refine thnF (rt.run _ s8 τ G2 _ I8 q8) ?_
      -- what ends a turn
      have next : ∀ {s' : Shared} {G' : Hp}, Inv (X.blk s3 HB sc en fp) ([] ++ pinsAt fp s7.heap) τ G' s' → Pv (i + 1) G' → ∃ m, m < n - i ∧ ∃ i G, m = n - i ∧ i ≤ n ∧ Inv (X.blk s3 HB sc en fp) [] (wipe σ (own.map (·.2))) G s' ∧ tn i s'.heap ∧ (∀ b ∈ fp, G b = none) ∧ Pv i G := fun {s' G'} K p => by
        have pin : ∀ b ∈ fp, ∀ o, s7.heap.get? b = some o → s'.heap.get? b = some o ∧ G' b = none := fun b hb o e =>
          have z := K.pin (b, o) (by simp [mem_pinsAt hb e])
          ⟨z.1, z.2.1⟩
        refine ⟨n - (i + 1), by omega, i + 1, G', rfl, hlt, (K.unpinned (pins := [])).weak (by rw [← wp, wipe_length]) (fun j v e => (wipe_some (by rw [wp]; exact e)).1), T.keep _ _ _ t7 fun b hb o e => (pin b hb o e).1, fun b hb => ?_, p⟩
        obtain ⟨o, e, _⟩ := T.obj _ _ t7 b hb
        exact (pin b hb o e).2
      rintro b s9 ⟨G3, I9, q9⟩
      cases b with
      | true =>
        rw [if_pos rfl] at q9 ⊢
        refine thnF (rk.run _ s9 τ G3 _ I9 q9) ?_
        rintro ku s10 ⟨y, G4, I10, ry, q10⟩
        refine thnF (rv.run _ s10 τ G4 _ I10 q10) ?_
        rintro vu s11 ⟨z, G5, I11, rz, G6, put, p⟩
        exact put_ok (X := X.blk s3 HB sc en fp) room I11 put ry rz fun _ I12 => next I12 p
      | false =>
        rw [if_neg Bool.false_ne_true] at q9 ⊢
        exact next I9 q9
    · obtain rfl : i = n := by omega
      obtain ⟨stop, q⟩ := pEnd G p5
      refine thnF (T.done (X.blk s3 HB sc en fp) rfl rfl rfl hc i [] s5 _ G (fun _ _ => False) I5 (inFp I5 f5) t5 stop) ?_
      rintro r s6 ⟨rfl, I6⟩
      have I7 : Inv X pl σ G s6 := I3.call' (ch := fp) I6.os I6.base I6.hok I6.bare fun b hb => by
        obtain ⟨⟨_, a1, _, a3, a4, a5⟩, _⟩ := f3 b hb
        exact ⟨a3, a1, a4, a5⟩
      have gone : G s3.heap.objs.size = none := by rw [← locs]; exact I6.free
      obtain ⟨mm, ns, _⟩ := I6.loc
      have ns : s6.heap.Ns s3.heap.objs.size mm := by rw [← locs]; exact ns
      obtain ⟨b0, b1, _, b3, b4, b5⟩ := I3.fpOk (Nat.le_refl _) gone
      exact ⟨mm, ns, fun g sb => ⟨.ref D, G, I7.turned (t' := s6.toks) (fun b o hb e => (sb.2 b hb).trans e) b0 b1 b3 b4 b5, rfl, q⟩⟩
  exact codeAny_compStart_dict lp (T.self X.A 0 _ _ _ t4 lp)
end
end Dl
namespace Ss
open PySem PySem.Spec PyProof.Rows L2 Sw
/-! ### sets of ints and texts, with what a walk over them asks -/
def kyOf (e : Int × Value) : Key := match e.2 with
  | .int i _ => .inl i
  | .str z _ => .inr z
  | _ => .inl 0
def Ent (w : World) (e : Int × Value) : Prop := keyIs (kyOf e) e.2 = true ∧ e.1 = keyH w (kyOf e)
/-- the set at a, its members L in some order -/
def SetM (w : World) (h : Heap) (a : Addr) (L : List Key) : Prop :=
  ∃ o es ep t, (h.get? a = some o ∧ o.ExactSet ∧ o.data = .set es ep t) ∧ (∀ e ∈ es.toList, Ent w e) ∧ L.Perm (es.toList.map kyOf) ∧ L.Nodup ∧ L.length < scanBound ∧
    (t.fits es.size = true ∧ Ris t.place.toList ∧ (w.params.followText "set-order" = true ∨ t.led = true))
theorem ky_int (i : Int) (tk : Tok) (n : Int) : kyOf (n, .int i tk) = .inl i := rfl
theorem ky_str (z : Str) (tk : Tok) (n : Int) : kyOf (n, .str z tk) = .inr z := rfl
theorem is_scan {k : Key} {u : Value} (h : keyIs k u = true) : u.scannable = true := by
  rcases keyIs_shape h with ⟨i, t, _, rfl⟩ | ⟨z, t, _, rfl⟩ <;> rfl
theorem is_ky {k : Key} {u : Value} (h : keyIs k u = true) (n : Int) : kyOf (n, u) = k := by
  rcases keyIs_shape h with ⟨i, t, rfl, rfl⟩ | ⟨z, t, rfl, rfl⟩ <;> rfl
theorem is_inj {a b : Key} {u : Value} (ha : keyIs a u = true) (hb : keyIs b u = true) : a = b := (is_ky ha 0).symm.trans (is_ky hb 0)
section
variable {P : Program} {w : World} {h h' : Heap} {a : Addr} {L : List Key}
theorem ents_el {l : List (Int × Value)} (g : ∀ e ∈ l, Ent w e) : ElemsOf (mixKind P w) l := fun e he => ⟨⟨kyOf e, (g e he).1, (g e he).2⟩, is_scan (g e he).1⟩
theorem ent_is {e : Int × Value} (g : Ent w e) (k : Key) : (mixKind P w).is k e.2 = true ↔ kyOf e = k := ⟨fun q => is_inj g.1 q, fun q => q ▸ g.1⟩
theorem SetM.keep (R : SetM w h a L) (k : ∀ o, h.get? a = some o → h'.get? a = some o) : SetM w h' a L := by
  obtain ⟨o, es, ep, t, ⟨g1, g2, g3⟩, r⟩ := R
  exact ⟨o, es, ep, t, ⟨k o g1, g2, g3⟩, r⟩
theorem SetM.there (R : SetM w h a L) : ∃ o, h.get? a = some o := by
  obtain ⟨o, _, _, _, ⟨g1, _, _⟩, _⟩ := R
  exact ⟨o, g1⟩
theorem setM_void : SetM w (h.push (bare (!w.params.followText "set-order"))) h.objs.size [] :=
  ⟨_, #[], 0, _, ⟨Heap.get?_push_size _ rfl, ⟨rfl, rfl, rfl⟩, rfl⟩, (fun e he => by simp at he), .refl _, .nil, by decide, by rfl, .nil, by
    show _ ∨ (!w.params.followText "set-order") = true
    cases w.params.followText "set-order" <;> simp⟩
end
section
variable {P : Program} {w : World} {A : Around} {E : Value → Shared → Prop} {s : Shared} {a : Addr} {L : List Key}
theorem put_at {h : Heap} {o : Obj} {es fs : Array (Int × Value)} {ep : Nat} {t u : SetTable} (g : h.get? a = some o) (d : o.data = .set es ep t) : (h.update a (Obj.putSet fs u)).get? a = some { o with data := .set fs (ep + 1) u } := by
  have e := putSet_of fs u d
  have z := Heap.get?_update_self (Obj.putSet fs u) g (by rw [e]; rfl)
  rwa [e] at z
/-- the rows are stored, and laid anew if the table is full -/
theorem rest_add {f : Bool → Sem Unit} (hf : ∀ (b : Bool) (s₁ : Shared) (Q : Unit → Shared → Prop), Q () s₁ → wpAny (model P w) A (f b) Q E s₁) {o : Obj} {es fs : Array (Int × Value)} {ep : Nat} {t u : SetTable}
    (g : s.heap.get? a = some o) (x : o.ExactSet) (d : o.data = .set es ep t) (ent : ∀ e ∈ fs.toList, Ent w e) (pm : L.Perm (fs.toList.map kyOf)) (nd : L.Nodup) (few : L.length < scanBound)
    (fit : u.fits fs.size = true) (ris : Ris u.place.toList) (led : w.params.followText "set-order" = true ∨ u.led = true) {full : Bool} {R : Option Bool → Shared → Prop}
    (k : ∀ h', Heap.SameBut a s.heap h' → SetM w h' a L → R (some true) { s with heap := h' }) :
    wpAny (model P w) A (do
      storeSet a fs u
      if (!full && u.tooFull) = true then do
        f (relayAll u fs (SetTable.grown fs.size)).2.2
        storeSet a (relayAll u fs (SetTable.grown fs.size)).1 (relayAll u fs (SetTable.grown fs.size)).2.1
        pure (some true)
      else pure (some true)) R E s := by
  have zf : fs.size = L.length := by rw [pm.length_eq, List.length_map, Array.length_toList]
  have b1 : fs.size < scanBound := by omega
  refine wpAny_bind (wpAny_storeSet_of g d ?_ (fits_of_scanBound b1))
  have g1 := put_at (fs := fs) (u := u) g d
  have c1 := Heap.SameBut.update s.heap a (Obj.putSet fs u)
  split
  · obtain ⟨p2, f2, r2, l2⟩ := And.intro (relayAll_perm u fs (SetTable.grown fs.size)) (And.intro (relayAll_fits u fs (SetTable.grown fs.size)) (And.intro (relayAll_ris u fs (SetTable.grown fs.size)) (relayAll_led u fs (SetTable.grown fs.size))))
    revert p2 f2 r2 l2
    generalize relayAll u fs (SetTable.grown fs.size) = Y
    obtain ⟨gs, v, gave⟩ := Y
    intro p2 f2 r2 l2
    have zg : gs.size = fs.size := by rw [← Array.length_toList, p2.length_eq, Array.length_toList]
    refine wpAny_bind (hf _ _ _ (wpAny_bind (wpAny_storeSet_of g1 rfl (wpAny_pure (k _ (c1.trans (Heap.SameBut.update _ a _)) ?_)) (fits_of_scanBound (zg.symm ▸ b1)))))
    exact ⟨_, gs, _, v, ⟨put_at (fs := gs) (u := v) g1 rfl, x, rfl⟩, fun e he => ent e (p2.mem_iff.mp he), pm.trans (p2.map kyOf).symm, nd, few, f2, r2, led.imp id fun z => l2.trans z⟩
  · exact wpAny_pure (k _ c1 ⟨_, fs, _, u, ⟨g1, x, rfl⟩, ent, pm, nd, few, fit, ris, led⟩)
/-- members with k -/
structure Ins (L : List Key) (k : Key) (L' : List Key) : Prop where
  mem : ∀ j, j ∈ L' ↔ j = k ∨ j ∈ L
  len : L'.length ≤ L.length + 1
theorem add_hashed {k : Key} {x : Value} {Q : Bool → Shared → Prop} (R : SetM w s.heap a L) (hk : keyIs k x = true) (room : L.length + 1 < scanBound)
    (q : ∀ h' b L', Heap.SameBut a s.heap h' → SetM w h' a L' → Ins L k L' → Q b { s with heap := h' }) : wpAny (model P w) A (setAddHashed a x (keyH w k)) Q E s := by
  obtain ⟨o, es, ep, t, ⟨g, ex, d⟩, ent, pm, nd, few, fit, ris, led⟩ := R
  have sc := is_scan hk
  have el : ElemsOf (mixKind P w) es.toList := ents_el ent
  have zs : es.size = L.length := by rw [pm.length_eq, List.length_map, Array.length_toList]
  have b0 : es.size < scanBound := by omega
  have iff : k ∈ L ↔ ∃ e ∈ es.toList, (mixKind P w).is k e.2 = true := by
    rw [pm.mem_iff, List.mem_map]
    exact ⟨fun ⟨e, he, z⟩ => ⟨e, he, (ent_is (ent e he) k).mpr z⟩, fun ⟨e, he, z⟩ => ⟨e, he, (ent_is (ent e he) k).mp z⟩⟩
  unfold setAddHashed setAddHashedIn
  refine wpAny_holding (wpAny_bind (wpAny_setState_of g d fit ?_))
  dsimp only
  rw [byScan_of sc b0 el, if_pos rfl]
  unfold setAddByScan
  refine wpAny_bind (wpAny_bind (wpAny_rule (wpAny_bind (wpAny_setScan_of (knd := mixKind P w) hk g d fit el ?_))))
  cases fi : List.findIdx? (fun e => (mixKind P w).is k e.2) es.toList with
  | some j =>
    obtain ⟨hj, pj, _⟩ := List.findIdx?_eq_some_iff_getElem.mp fi
    have hin : k ∈ L := iff.mpr ⟨_, List.getElem_mem hj, pj⟩
    exact wpAny_pure (wpAny_pure (q s.heap _ L (Heap.SameBut.refl a _) ⟨o, es, ep, t, ⟨g, ex, d⟩, ent, pm, nd, few, fit, ris, led⟩ ⟨fun j => ⟨.inr, fun z => z.elim (fun e => e ▸ hin) id⟩, Nat.le_succ _⟩))
  | none =>
    have out : k ∉ L := fun z => by
      obtain ⟨e, he, y⟩ := iff.mp z
      have c := List.findIdx?_eq_none_iff.mp fi e he
      rw [y] at c; cases c
    have quiet : ∀ (b : Bool) {s₁ : Shared} {R : Unit → Shared → Prop}, R () s₁ → wpAny (model P w) A (match b with | true => rule "set.scan.the-table-gave-way" | false => pure ()) R E s₁ := fun b s₁ R z => by
      cases b <;> first | exact wpAny_pure z | exact wpAny_rule z
    obtain ⟨p1, f1, r1, l1⟩ := And.intro (layNew_perm t es (keyH w k) x) (And.intro (layNew_fits t es (keyH w k) x) (And.intro (layNew_ris t es (keyH w k) x ris) (layNew_led t es (keyH w k) x)))
    dsimp only
    revert p1 f1 r1 l1
    generalize layNew t es (keyH w k) x = Y
    obtain ⟨fs, u, wasD, gave⟩ := Y
    intro p1 f1 r1 l1
    dsimp only at p1 f1 r1 l1 ⊢
    rw [Array.toList_push] at p1
    have p2 : fs.toList.Perm ((keyH w k, x) :: es.toList) := p1.trans (List.perm_append_singleton _ _)
    have ent2 : ∀ e ∈ fs.toList, Ent w e := fun e he => by
      rcases List.mem_cons.mp (p2.mem_iff.mp he) with rfl | z
      · have e1 := is_ky hk (keyH w k)
        exact ⟨by rw [e1]; exact hk, by rw [e1]⟩
      · exact ent e z
    have pm2 : (k :: L).Perm (fs.toList.map kyOf) := by
      refine ((pm.cons k).trans ?_).trans (p2.map kyOf).symm
      rw [List.map_cons, is_ky hk]
    have nd2 : (k :: L).Nodup := List.nodup_cons.mpr ⟨out, nd⟩
    have few2 : (k :: L).length < scanBound := room
    have led2 : w.params.followText "set-order" = true ∨ u.led = true := led.imp id fun z => l1.trans z
    have fin : ∀ h', Heap.SameBut a s.heap h' → SetM w h' a (k :: L) → ∀ b, Q b { s with heap := h' } := fun h' sb r b => q h' b _ sb r ⟨fun j => List.mem_cons, Nat.le_refl _⟩
    refine wpAny_bind (quiet _ ?_)
    split
    · refine wpAny_bind ?_
      rw [hashByValue_scannable 8 sc]
      refine wpAny_pure (rest_add ?_ g ex d ent2 pm2 nd2 few2 ?_ ?_ ?_ ?_)
      · intro b s₁ R z; cases b <;> first | exact wpAny_pure z | exact wpAny_rule z
      · first | (split <;> first | exact f1 | exact SetTable.fits_plain_off f1) | exact f1
      · first | (split <;> exact r1) | exact r1
      · first | (split <;> exact led2) | exact led2
      · intro h' sb r; exact wpAny_pure (fin h' sb r _)
    · refine wpAny_bind (wpAny_pure ?_)
      simp only [↓reduceIte]
      refine rest_add ?_ g ex d ent2 pm2 nd2 few2 f1 r1 led2 ?_
      · intro b s₁ R z; cases b <;> first | exact wpAny_pure z | exact wpAny_rule z
      · intro h' sb r; exact wpAny_pure (fin h' sb r _)
end
end Ss
namespace Ss
open PySem PySem.Spec PyProof.Rows L2 Sw
section
variable {P : Program} {w : World} {A : Around} {E : Value → Shared → Prop} {s : Shared}
/-- a set is made ahead of its items -/
theorem led_new (x : Value) {Q : Value → Shared → Prop} (k : Q (.ref s.heap.objs.size) { s with heap := s.heap.push (bare (!w.params.followText "set-order")) }) :
    codeAny (model P w) A (.call (.builtin "set.__new__") ⟨[.type "set", x], []⟩) (wants Q E) s := by
  refine codeAny_of_tree (show wpAny _ A.in1 (checkBuiltinCall "set.__new__" ⟨[.type "set", x], []⟩ >>= fun _ => again (.builtin "set.__new__" ⟨[.type "set", x], []⟩)) _ _ s from ?_)
  refine wpAny_bind (wpAny_of_eq (PySem.F.newCall_set_1 x) (wpAny_pure ⟨plainId_quiet PySem.F.plain_set_new _, codeAny_builtin PySem.F.entry_set_new ?_⟩))
  rw [Around.under_plainId PySem.F.plain_set_new _]
  unfold Builtin.«set.__new__» Builtin.Frozenset.newClass
  have same := sub_set_self
  obtain ⟨h0, g0, d0, t0, o0⟩ := s
  dsimp only
  wp_walk
  refine wpAny_askSetting (wpAny_pure ?_)
  dsimp only
  simp only [newObj]
  exact wpAny_bind (wpAny_alloc (wpAny_pure (wpAny_pure k)))
end
/-- members as they come -/
structure Cov (ks : List Key) (i : Nat) (L : List Key) : Prop where
  mem : ∀ j, j ∈ L ↔ j ∈ ks.take i
  len : L.length ≤ i
theorem Cov.next {ks L L' : List Key} {i : Nat} {k : Key} (c : Cov ks i L) (e : ks[i]? = some k) (n : Ins L k L') : Cov ks (i + 1) L' := by
  have t : ks.take (i + 1) = ks.take i ++ [k] := by rw [List.take_succ, e]; rfl
  refine ⟨fun j => ?_, Nat.le_trans n.len (Nat.succ_le_succ c.len)⟩
  rw [n.mem j, c.mem j, t, List.mem_append, List.mem_singleton]
  exact Or.comm
section
variable {P : Program} {w : World} {A : Around} {R : Result → Shared → Prop} {J : Addr} {fp wr : List Addr} {G : Array GenState → Array GenState → Prop} {n : Nat} {Pv : Nat → Value → Prop} {St : Nat → Shared → Prop}
theorem fill (W : WalksS P w A.in1 J fp wr G n Pv St) (a : Addr) (ha : a ∉ fp) (ks : List Key) (few : n + 1 < scanBound) (val : ∀ i v, Pv i v → ∃ k, ks[i]? = some k ∧ keyIs k v = true) :
    ∀ (m i : Nat) (s : Shared) (L : List Key), n - i = m → i ≤ n → St i s → SetM w s.heap a L → Cov ks i L →
      (∀ s' L', Moved (a :: wr) G s s' → SetM w s'.heap a L' → Cov ks n L' → R (.ok (.ret .none)) s') → codeAny (model P w) A (.builtin "set.update.loop" ⟨[.ref a, .ref J], []⟩) R s := by
  have nw : a ∉ wr := fun z => ha (W.sub _ z)
  have up : ∀ b ∈ wr, b ∈ a :: wr := fun b z => List.mem_cons_of_mem _ z
  intro m
  induction m with
  | zero =>
    intro i s L hm hi st R0 cv q
    obtain rfl : i = n := by omega
    refine codeAny_builtin (b := Builtin.«set.update.loop») PyProof.Rows.F.entry_set_update_loop ?_
    rw [show A.under (.builtin "set.update.loop" ⟨[.ref a, .ref J], []⟩) = A.in1 from Around.under_plainId PyProof.Rows.F.plain_set_update_loop _]
    refine wpAny_bind (W.done s _ _ st fun s2 mv => ?_)
    exact wpAny_pure (q s2 L (mv.mono up) (R0.keep fun o e => mv.heap a o nw e) cv)
  | succ m ih =>
    intro i s L hm hi st R0 cv q
    have lt : i < n := by omega
    refine codeAny_builtin (b := Builtin.«set.update.loop») PyProof.Rows.F.entry_set_update_loop ?_
    rw [show A.under (.builtin "set.update.loop" ⟨[.ref a, .ref J], []⟩) = A.in1 from Around.under_plainId PyProof.Rows.F.plain_set_update_loop _]
    refine wpAny_bind (W.item i s _ _ lt st fun v s2 pv st2 mv => ?_)
    obtain ⟨k, ek, hk⟩ := val i v pv
    have R2 : SetM w s2.heap a L := R0.keep fun o e => mv.heap a o nw e
    refine wpAny_bind (m := holding [v] (setAdd a v)) (wpAny_holding ?_)
    unfold setAdd
    refine wpAny_holding (wpAny_bind ((mixKind P w).pyHash (k := k) hk ?_))
    have room : L.length + 1 < scanBound := by have := cv.len; omega
    refine add_hashed (s := { s2 with toks := s2.toks + 1 }) R2 hk room fun h' b L' sb R3 nx => ?_
    refine wpAny_pure ⟨plainId_quiet PyProof.Rows.F.plain_set_update_loop _, ih (i + 1) _ L' (by omega) lt (W.frame _ s2 _ _ st2 (Nat.le_succ _) fun b hb o z => ?_) R3 (cv.next ek nx) fun s3 L3 m3 R4 c3 => ?_⟩
    · rw [sb.2 b (fun z2 : b = a => ha (z2 ▸ hb))]; exact z
    · refine q s3 L3 (Moved.trans W.gtrans ((mv.mono up).then_heap (Nat.le_succ _) fun b o hb z => ?_) m3) R4 c3
      rw [sb.2 b (fun z2 : b = a => hb (z2 ▸ List.mem_cons_self))]; exact z
end
/-- the set at the heap's end is filled from what is walked -/
def Fills (P : Program) (w : World) (s : Shared) (l : Addr) (items : Array Value) (A : Around) (Rs : Heap → Prop) : Prop :=
  ∀ (R : Result → Shared → Prop) (J : Addr) (G : Array GenState → Array GenState → Prop) (St : Nat → Shared → Prop) (s1 : Shared), WalksS P w A.in1 J [J, l] [J] G items.size (fun i v => items[i]? = some v) St → s.heap.objs.size ∉ [J, l] → s.heap.objs.size < J → St 0 s1 →
    s1.heap.get? s.heap.objs.size = some (bare (!w.params.followText "set-order")) → (∀ b o, s.heap.get? b = some o → s1.heap.get? b = some o) →
    (∀ s', Moved (s.heap.objs.size :: [J]) G s1 s' → Rs s'.heap → R (.ok (.ret .none)) s') → codeAny (model P w) A (.builtin "set.update.loop" ⟨[.ref s.heap.objs.size, .ref J], []⟩) R s1
theorem setM_bare {w : World} {h : Heap} {a : Addr} (g : h.get? a = some (bare (!w.params.followText "set-order"))) : SetM w h a [] :=
  ⟨_, #[], 0, _, ⟨g, ⟨rfl, rfl, rfl⟩, rfl⟩, (fun e he => by simp at he), .refl _, .nil, by decide, by rfl, .nil, by
    show _ ∨ (!w.params.followText "set-order") = true
    cases w.params.followText "set-order" <;> simp⟩
theorem fills_key {P : Program} {w : World} {s : Shared} {l : Addr} {items : Array Value} {A : Around} {ks : List Key} (val : ∀ (i : Nat) (v : Value), items[i]? = some v → ∃ k, ks[i]? = some k ∧ keyIs k v = true) (hk : ks.length = items.size) (few : items.size + 1 < scanBound) :
    Fills P w s l items A fun h' => ∃ L, SetM w h' s.heap.objs.size L ∧ (∀ j, j ∈ L ↔ j ∈ ks) ∧ L.length ≤ ks.length := by
  intro R J G St s1 W nf _ st e0 _ q
  refine fill W s.heap.objs.size nf ks few val (items.size - 0) 0 _ [] (by omega) (Nat.zero_le _) st (setM_bare e0) ⟨fun j => by simp, Nat.le_refl _⟩ fun s' L mv R2 cv => ?_
  exact q s' mv ⟨L, R2, fun j => by rw [cv.mem j, ← hk, List.take_length], by rw [hk]; exact cv.len⟩
section
variable {P : Program} {w : World} {A : Around} {E : Value → Shared → Prop} {s : Shared}
theorem set_of_list {l : Addr} {items : Array Value} {Rs : Heap → Prop} {Q : Value → Shared → Prop} (hh : A.handled = none) (hl : s.heap.IsList l items) (loop : Fills P w s l items A.in1.in1 Rs)
    (q : ∀ (h' : Heap) (tk : Nat), Rs h' → (∀ b o, b < s.heap.objs.size → s.heap.get? b = some o → h'.get? b = some o) → Q (.ref s.heap.objs.size) { s with heap := h', toks := tk }) :
    wpAny (model P w) A (call (.type "set") [.ref l]) Q E s := by
  obtain ⟨c, tl, mr⟩ := PySem.F.called_set.mro
  have mk0 := PySem.F.called_set.made
  have sb0 := PySem.F.called_set.sub
  refine wpAny_call (codeAny_of_tree (show wpAny _ _ (callAny (.type "set") _) _ _ _ from ?_))
  refine wpAny_pure ⟨Code.quiet_builtin _ (by decide +kernel), codeAny_builtin PySem.F.entry_type_call ?_⟩
  rw [Around.under_plain (weight_type_call_type "set" [.ref l] []) rfl]
  have h1 := PySem.F.called_set.notType
  have h2 := PySem.F.called_set.canCreate
  have tc0 := PySem.F.typeCall_set_1 (.ref l)
  repeat (any_goals (first | assumption | wp_step))
  refine codeAny_mono (led_new (.ref l) (E := E) (Q := fun ob s₁ => ob = .ref s.heap.objs.size ∧ s₁ = { s with heap := s.heap.push (bare (!w.params.followText "set-order")) }) ⟨rfl, rfl⟩) fun r s₁ hr => ?_
  cases r with
  | error e => exact hr
  | ok fl =>
    cases fl with
    | ret ob =>
      obtain ⟨rfl, rfl⟩ := hr
      generalize eled : (!w.params.followText "set-order") = led at *
      have zS : (s.heap.push (bare led)).get? s.heap.objs.size = some (bare led) := Heap.get?_push_size _ rfl
      have zT : Shared.TypeIs { s with heap := s.heap.push (bare led) } (.ref s.heap.objs.size) "set" := ⟨_, zS, rfl⟩
      have ini := PySem.F.called_set.init.lookup
      have bnd := PySem.F.called_set.init.bind (.ref s.heap.objs.size)
      repeat (any_goals (first | assumption | wp_step))
      refine codeAny_mono (codeAny_call_builtin (R := wants (fun r t2 => r = .none ∧ ∃ h' tk, t2 = { s with heap := h', toks := tk } ∧ Rs h' ∧
          (∀ b o, b < s.heap.objs.size → s.heap.get? b = some o → h'.get? b = some o)) E) PySem.F.called_set.init.plain PySem.F.entry_set_init (check_set_init_1 zT ?_)) fun r2 t2 z₂ => ?_
      · obtain ⟨obL, atL, clL, nL, dtL⟩ := hl
        obtain ⟨k1, k2, k3, k4⟩ := obL
        simp only at clL dtL
        subst clL; subst dtL
        have atL2 : (s.heap.push (bare led)).get? l = some { cls := .type "list", dict := k2, data := .seq items nL, slots := k4 } := Heap.get?_push_of_some _ atL
        have sub1 := PySem.F.sub_list_set
        have sub2 := PySem.F.sub_list_frozenset
        have dne : (Value.type "list" == Value.type "dict") = false := by decide
        have lst1 : (s.heap.push (bare led)).IsList l items := ⟨_, atL2, rfl, nL, rfl⟩
        unfold Builtin.«set.__init__» noKeywords Builtin.Frozenset.updateFrom
        generalize hide : pyIter = IT
        wp_walk
        subst hide
        refine wpAny_pyIter_list lst1 ?_
        refine wpAny_bind (wpAny_runValue ?_)
        have ltS : l < s.heap.objs.size := Heap.lt_size atL
        have calm3 : A.in1.in1.in1.handled = none := by simp [hh]
        have apart : l ≠ (s.heap.push (bare led)).objs.size := by
          rw [Heap.size_push]; exact Nat.ne_of_lt (Nat.lt_succ_of_lt ltS)
        have nofp : s.heap.objs.size ∉ [(s.heap.push (bare led)).objs.size, l] := by
          rw [Heap.size_push]; simp only [List.mem_cons, List.mem_singleton, List.not_mem_nil, or_false, not_or]
          exact ⟨Nat.ne_of_lt (Nat.lt_succ_self _), Nat.ne_of_gt ltS⟩
        refine loop _ _ _ _ _ ((Walks.list calm3 _ l apart items).toS) nofp (by rw [Heap.size_push]; exact Nat.lt_succ_self _) ⟨⟨_, Heap.get?_push_size _ rfl, rfl, rfl⟩, (lst1.push _)⟩ (Heap.get?_push_of_some _ (zS.trans (congrArg (fun b => some (bare b)) eled.symm))) (fun b o e => Heap.get?_push_of_some _ (Heap.get?_push_of_some _ e)) ?c2
        case c2 =>
          intro s' mv R2
          obtain ⟨h', g', d', tk', os'⟩ := s'
          have qg : g' = s.gens := mv.gens
          have qd : d' = s.drawn := mv.drawn
          have qo : os' = s.os := mv.os
          subst qg; subst qd; subst qo
          show wpAny _ _ _ _ _ _
          refine wpAny_pure ?_
          show wpAny _ _ (ret Value.none) _ _ _
          refine wpAny_pure ⟨rfl, h', tk', rfl, R2, fun b o hb e => ?_⟩
          have ne1 : b ≠ s.heap.objs.size := Nat.ne_of_lt hb
          have ne2 : b ≠ (s.heap.push (bare led)).objs.size := by
            rw [Heap.size_push]; exact Nat.ne_of_lt (Nat.lt_succ_of_lt hb)
          exact mv.heap b o (by simp only [List.mem_cons, List.mem_singleton, List.not_mem_nil, or_false, not_or]; exact ⟨ne1, ne2⟩) (Heap.get?_push_of_some _ (Heap.get?_push_of_some _ e))
      · cases r2 with
        | error e => exact z₂
        | ok fl₂ =>
          cases fl₂ with
          | ret r =>
            obtain ⟨rfl, h', tk, rfl, R2, kk⟩ := z₂
            repeat (any_goals (first | assumption | wp_step))
            exact q _ _ R2 kk
          | _ => exact z₂.elim
    | _ => exact hr.elim
theorem set_of_tuple {l : Addr} {items : Array Value} {Rs : Heap → Prop} {Q : Value → Shared → Prop} (hh : A.handled = none) (hl : s.heap.IsTuple l items) (loop : Fills P w s l items A.in1.in1 Rs)
    (q : ∀ (h' : Heap) (tk : Nat), Rs h' → (∀ b o, b < s.heap.objs.size → s.heap.get? b = some o → h'.get? b = some o) → Q (.ref s.heap.objs.size) { s with heap := h', toks := tk }) :
    wpAny (model P w) A (call (.type "set") [.ref l]) Q E s := by
  obtain ⟨c, tl, mr⟩ := PySem.F.called_set.mro
  have mk0 := PySem.F.called_set.made
  have sb0 := PySem.F.called_set.sub
  refine wpAny_call (codeAny_of_tree (show wpAny _ _ (callAny (.type "set") _) _ _ _ from ?_))
  refine wpAny_pure ⟨Code.quiet_builtin _ (by decide +kernel), codeAny_builtin PySem.F.entry_type_call ?_⟩
  rw [Around.under_plain (weight_type_call_type "set" [.ref l] []) rfl]
  have h1 := PySem.F.called_set.notType
  have h2 := PySem.F.called_set.canCreate
  have tc0 := PySem.F.typeCall_set_1 (.ref l)
  repeat (any_goals (first | assumption | wp_step))
  refine codeAny_mono (led_new (.ref l) (E := E) (Q := fun ob s₁ => ob = .ref s.heap.objs.size ∧ s₁ = { s with heap := s.heap.push (bare (!w.params.followText "set-order")) }) ⟨rfl, rfl⟩) fun r s₁ hr => ?_
  cases r with
  | error e => exact hr
  | ok fl =>
    cases fl with
    | ret ob =>
      obtain ⟨rfl, rfl⟩ := hr
      generalize eled : (!w.params.followText "set-order") = led at *
      have zS : (s.heap.push (bare led)).get? s.heap.objs.size = some (bare led) := Heap.get?_push_size _ rfl
      have zT : Shared.TypeIs { s with heap := s.heap.push (bare led) } (.ref s.heap.objs.size) "set" := ⟨_, zS, rfl⟩
      have ini := PySem.F.called_set.init.lookup
      have bnd := PySem.F.called_set.init.bind (.ref s.heap.objs.size)
      repeat (any_goals (first | assumption | wp_step))
      refine codeAny_mono (codeAny_call_builtin (R := wants (fun r t2 => r = .none ∧ ∃ h' tk, t2 = { s with heap := h', toks := tk } ∧ Rs h' ∧
          (∀ b o, b < s.heap.objs.size → s.heap.get? b = some o → h'.get? b = some o)) E) PySem.F.called_set.init.plain PySem.F.entry_set_init (check_set_init_1 zT ?_)) fun r2 t2 z₂ => ?_
      · obtain ⟨obL, atL, clL, nL, dtL⟩ := hl
        obtain ⟨k1, k2, k3, k4⟩ := obL
        simp only at clL dtL
        subst clL; subst dtL
        have atL2 : (s.heap.push (bare led)).get? l = some { cls := .type "tuple", dict := k2, data := .seq items nL, slots := k4 } := Heap.get?_push_of_some _ atL
        have sub1 := PySem.F.sub_tuple_set
        have sub2 := PySem.F.sub_tuple_frozenset
        have dne : (Value.type "tuple" == Value.type "dict") = false := by decide
        have lst1 : (s.heap.push (bare led)).IsTuple l items := ⟨_, atL2, rfl, nL, rfl⟩
        unfold Builtin.«set.__init__» noKeywords Builtin.Frozenset.updateFrom
        generalize hide : pyIter = IT
        wp_walk
        subst hide
        refine wpAny_pyIter_tuple lst1 ?_
        refine wpAny_bind (wpAny_runValue ?_)
        have ltS : l < s.heap.objs.size := Heap.lt_size atL
        have calm3 : A.in1.in1.in1.handled = none := by simp [hh]
        have apart : l ≠ (s.heap.push (bare led)).objs.size := by
          rw [Heap.size_push]; exact Nat.ne_of_lt (Nat.lt_succ_of_lt ltS)
        have nofp : s.heap.objs.size ∉ [(s.heap.push (bare led)).objs.size, l] := by
          rw [Heap.size_push]; simp only [List.mem_cons, List.mem_singleton, List.not_mem_nil, or_false, not_or]
          exact ⟨Nat.ne_of_lt (Nat.lt_succ_self _), Nat.ne_of_gt ltS⟩
        refine loop _ _ _ _ _ ((Walks.tuple calm3 _ l apart items).toS) nofp (by rw [Heap.size_push]; exact Nat.lt_succ_self _) ⟨⟨_, Heap.get?_push_size _ rfl, rfl, rfl⟩, (lst1.push _)⟩ (Heap.get?_push_of_some _ (zS.trans (congrArg (fun b => some (bare b)) eled.symm))) (fun b o e => Heap.get?_push_of_some _ (Heap.get?_push_of_some _ e)) ?c2
        case c2 =>
          intro s' mv R2
          obtain ⟨h', g', d', tk', os'⟩ := s'
          have qg : g' = s.gens := mv.gens
          have qd : d' = s.drawn := mv.drawn
          have qo : os' = s.os := mv.os
          subst qg; subst qd; subst qo
          show wpAny _ _ _ _ _ _
          refine wpAny_pure ?_
          show wpAny _ _ (ret Value.none) _ _ _
          refine wpAny_pure ⟨rfl, h', tk', rfl, R2, fun b o hb e => ?_⟩
          have ne1 : b ≠ s.heap.objs.size := Nat.ne_of_lt hb
          have ne2 : b ≠ (s.heap.push (bare led)).objs.size := by
            rw [Heap.size_push]; exact Nat.ne_of_lt (Nat.lt_succ_of_lt hb)
          exact mv.heap b o (by simp only [List.mem_cons, List.mem_singleton, List.not_mem_nil, or_false, not_or]; exact ⟨ne1, ne2⟩) (Heap.get?_push_of_some _ (Heap.get?_push_of_some _ e))
      · cases r2 with
        | error e => exact z₂
        | ok fl₂ =>
          cases fl₂ with
          | ret r =>
            obtain ⟨rfl, h', tk, rfl, R2, kk⟩ := z₂
            repeat (any_goals (first | assumption | wp_step))
            exact q _ _ R2 kk
          | _ => exact z₂.elim
    | _ => exact hr.elim
end
end Ss
namespace Ss
open PySem PySem.Spec PyProof.Rows L2 Sw
def SetMO (w : World) (a : Addr) (L : List Key) : HO := .ext fun h => SetM w h a L
section
variable {X : Cx} {pins : List (Addr × Obj)} {σ : L2.St} {H : Hp} {s : Shared} {a : Addr} {L : List Key}
theorem setMO_new {w : World} {P : Program} {H : Hp} {h : Heap} {a : Addr} {L : List Key} (R : SetM w h a L) : ObjOk P w H h a (SetMO w a L) := ⟨R, R.there, fun _ _ p k => SetM.keep p k⟩
theorem setMO_get (I : Inv X pins σ H s) (ha : H a = some (SetMO X.w a L)) : SetM X.w s.heap a L := (I.hok a _ ha).1
theorem vals_key : ∀ {ks : List Key} {us : List Value}, Vals (ks.map kV) us → ks.length = us.length ∧ ∀ (i : Nat) (v : Value), us[i]? = some v → ∃ k, ks[i]? = some k ∧ keyIs k v = true
  | [], _, .nil => ⟨rfl, fun i v e => by simp at e⟩
  | k :: ks, _, .cons h t => by
    obtain ⟨l, g⟩ := vals_key t
    refine ⟨by simp [l], fun i v e => ?_⟩
    cases i with
    | zero =>
      have e := Option.some.inj (by simpa using e)
      subst e
      refine ⟨k, rfl, ?_⟩
      cases k with
      | inl i => obtain ⟨t, rfl⟩ := h; exact keyIs_int i t
      | inr z => obtain ⟨t, rfl⟩ := h; exact keyIs_str z t
    | succ i => exact g i v (by simpa using e)
/-- set(x), x a list or a tuple of ints and texts -/
def rSetM (K : PySem.W.Frag) (w : World) : List V → Hp → VK → Prop := fun xs H Q => ∃ (l : Addr) (ks : List Key), xs = [.ref l] ∧ (SqL K H l (ks.map kV) ∨ SqT K H l (ks.map kV)) ∧ ks.length + 1 < scanBound ∧
  ∀ (p : Addr) (L : List Key), H p = none → (∀ j, j ∈ L ↔ j ∈ ks) → L.length ≤ ks.length → Q (.ref p) (upd H p (SetMO w p L))
theorem cr_setM (hc : X.calm = true) : CallR X (.type "set") (rSetM X.K X.w) := by
  intro pins s σ H xs us Q I r ⟨l, ks, ex, hq, few, q⟩
  subst ex
  rw [Vals.ref1 r]
  have fin : ∀ (h' : Heap) (tk : Nat) (L : List Key), SetM X.w h' s.heap.objs.size L → (∀ j, j ∈ L ↔ j ∈ ks) → L.length ≤ ks.length → (∀ b o, b < s.heap.objs.size → s.heap.get? b = some o → h'.get? b = some o) → EP X pins σ Q (.ref s.heap.objs.size) { s with heap := h', toks := tk } := fun h' tk L R mem len kk =>
    ⟨.ref _, _, I.laid (t' := tk) (fun b o e => kk b o (Heap.lt_size e) e) (Nat.le_refl _) (setMO_new R), rfl, q _ L (I.hok.fresh (Nat.le_refl _)) mem len⟩
  rcases hq with hq | hq
  · obtain ⟨its, rv, pl, hz⟩ := I.list hq
    obtain ⟨hl, val⟩ := vals_key rv
    exact set_of_list (I.ok.hd hc) pl.isList (fills_key (fun i v e => val i v (by simpa using e)) (by simpa using hl) (by simpa [← hl] using few)) fun h' tk ⟨L, R, mem, len⟩ kk => fin h' tk L R mem len kk
  · obtain ⟨its, rv, pl, hz⟩ := I.tuple hq
    obtain ⟨hl, val⟩ := vals_key rv
    exact set_of_tuple (I.ok.hd hc) (show s.heap.IsTuple l its.toArray from pl) (fills_key (fun i v e => val i v (by simpa using e)) (by simpa using hl) (by simpa [← hl] using few)) fun h' tk ⟨L, R, mem, len⟩ kk => fin h' tk L R mem len kk
end
/-! ### sorted -/
def zOf : Value → Str
  | .str z _ => z
  | _ => Str.empty
def nOf : Value → Int
  | .int i _ => i
  | _ => 0
theorem strs_of : ∀ l : List Value, (∀ v ∈ l, ∃ z t, v = .str z t) → StrsAre l (l.map zOf)
  | [], _ => .nil
  | v :: l, h => by
    obtain ⟨z, t, rfl⟩ := h v (List.mem_cons_self ..)
    exact .cons z t (strs_of l fun u hu => h u (List.mem_cons_of_mem _ hu))
theorem ints_of' : ∀ l : List Value, (∀ v ∈ l, ∃ z t, v = .int z t) → IntsAre l (l.map nOf)
  | [], _ => .nil
  | v :: l, h => by
    obtain ⟨z, t, rfl⟩ := h v (List.mem_cons_self ..)
    exact .cons z t (ints_of' l fun u hu => h u (List.mem_cons_of_mem _ hu))
section
variable {P : Program} {w : World} {A : Around} {E : Value → Shared → Prop} {s : Shared} {a : Addr} {L : List Key}
theorem str_of_key {k : Key} {v : Value} {z : Str} (h : keyIs k v = true) (e : k = .inr z) : ∃ t, v = .str z t := by
  subst e
  rcases keyIs_shape h with ⟨i, t, q, _⟩ | ⟨y, t, q, rfl⟩
  · cases q
  · cases q; exact ⟨t, rfl⟩
theorem int_of_key {k : Key} {v : Value} {z : Int} (h : keyIs k v = true) (e : k = .inl z) : ∃ t, v = .int z t := by
  subst e
  rcases keyIs_shape h with ⟨i, t, q, rfl⟩ | ⟨y, t, q, _⟩
  · cases q; exact ⟨t, rfl⟩
  · cases q
theorem ent_strs {es : List (Int × Value)} {vs : List Value} {L : List Key} (ent : ∀ e ∈ es, Ent w e) (pm : L.Perm (es.map kyOf)) (pv : vs.Perm (es.map (·.2))) (hs : ∀ k ∈ L, ∃ z : Str, k = .inr z) :
    (∀ v ∈ vs, ∃ z t, v = Value.str z t) ∧ ((vs.map zOf).map (Sum.inr : Str → Key)).Perm L := by
  have one : ∀ e ∈ es, ∃ z t, e.2 = Value.str z t ∧ kyOf e = .inr z := fun e he => by
    obtain ⟨z, ez⟩ := hs _ (pm.mem_iff.mpr (List.mem_map_of_mem he))
    obtain ⟨t, et⟩ := str_of_key (ent e he).1 ez
    exact ⟨z, t, et, ez⟩
  refine ⟨fun v hv => ?_, ?_⟩
  · obtain ⟨e, he, rfl⟩ := List.mem_map.mp (pv.mem_iff.mp hv)
    obtain ⟨z, t, e1, _⟩ := one e he
    exact ⟨z, t, e1⟩
  · refine ((pv.map zOf).map _).trans (List.Perm.trans (.of_eq ?_) pm.symm)
    rw [List.map_map, List.map_map]
    refine List.map_congr_left fun e he => ?_
    obtain ⟨z, t, e1, e2⟩ := one e he
    show Sum.inr (zOf e.2) = _
    rw [e1, e2]; rfl
theorem ent_ints {es : List (Int × Value)} {vs : List Value} {L : List Key} (ent : ∀ e ∈ es, Ent w e) (pm : L.Perm (es.map kyOf)) (pv : vs.Perm (es.map (·.2))) (hs : ∀ k ∈ L, ∃ z : Int, k = .inl z) :
    (∀ v ∈ vs, ∃ z t, v = Value.int z t) ∧ ((vs.map nOf).map (Sum.inl : Int → Key)).Perm L := by
  have one : ∀ e ∈ es, ∃ z t, e.2 = Value.int z t ∧ kyOf e = .inl z := fun e he => by
    obtain ⟨z, ez⟩ := hs _ (pm.mem_iff.mpr (List.mem_map_of_mem he))
    obtain ⟨t, et⟩ := int_of_key (ent e he).1 ez
    exact ⟨z, t, et, ez⟩
  refine ⟨fun v hv => ?_, ?_⟩
  · obtain ⟨e, he, rfl⟩ := List.mem_map.mp (pv.mem_iff.mp hv)
    obtain ⟨z, t, e1, _⟩ := one e he
    exact ⟨z, t, e1⟩
  · refine ((pv.map nOf).map _).trans (List.Perm.trans (.of_eq ?_) pm.symm)
    rw [List.map_map, List.map_map]
    refine List.map_congr_left fun e he => ?_
    obtain ⟨z, t, e1, e2⟩ := one e he
    show Sum.inl (nOf e.2) = _
    rw [e1, e2]; rfl
theorem nodup_of_map {α β : Type} (f : α → β) {l : List α} (h : (l.map f).Nodup) : l.Nodup := List.Pairwise.of_map f (fun _ _ n e => n (congrArg f e)) h
theorem sorted_str {xs : List Str} (R : SetM w s.heap a L) (hh : A.handled = none) (all : ∀ k, k ∈ L ↔ k ∈ xs.map Sum.inr) {Q : Value → Shared → Prop}
    (q : ∀ (s2 : Shared) (p : Addr) (out : List Value) (c : Nat) (ys : List Str), (∀ b o, s.heap.get? b = some o → s2.heap.get? b = some o) → s.heap.objs.size ≤ p → s2.gens = s.gens → s2.os = s.os → s2.heap.get? p = some (seqObj "list" out.toArray c) →
      StrsAre out ys → sortedS ys = true → ys.Nodup → (∀ z, z ∈ ys ↔ z ∈ xs) → out.length ≤ sizeLine → Q (.ref p) s2) : wpAny (model P w) A (call (.builtin "sorted") [.ref a]) Q E s := by
  obtain ⟨o, es, ep, t, ⟨g, ex, d⟩, ent, pm, nd, few, fit, ris, led⟩ := R
  have zs : es.size = L.length := by rw [pm.length_eq, List.length_map, Array.length_toList]
  refine Calls.call_function_entry kind_sorted plain_sorted entry_sorted (args_sorted1 _) ?_
  unfold Builtin.«sorted»
  refine wpAny_bind (m := checkCount "sorted" 1 1 _) (wpAny_pure ?_)
  refine wpAny_bind (collect_set (A := A.in1) hh ⟨o, g, ex.1, d⟩ fit (by omega) ris led fun s1 vs k1 z1 g1 o1 p1 => ?_)
  have lv : vs.length = L.length := by rw [p1.length_eq, List.length_map, Array.length_toList, zs]
  have lz : vs.length ≤ sizeLine := by rw [lv]; exact fits_of_scanBound few
  obtain ⟨each, pk⟩ := ent_strs ent pm p1 fun k hk => by
    obtain ⟨z, _, rfl⟩ := List.mem_map.mp ((all k).mp hk)
    exact ⟨z, rfl⟩
  have are := strs_of vs each
  refine wpAny_bind (wpAny_newList ?_ lz)
  have at1 : (s1.heap.push (seqObj "list" vs.toArray 0)).get? s1.heap.objs.size = some (seqObj "list" vs.toArray 0) := Heap.get?_push_size _ rfl
  refine wpAny_bind (wpAny_holding (wpAny_call_entry slot_list_sort ⟨_, at1, rfl⟩ entry_list_sort (list_sort_treeKAny strKind_oneLt at1 are.keysOf (fun v₁ v₂ rest e => keyKind_strs (by rw [← e]; exact are)) lz fun st hp hs => ⟨_, rfl, ?_⟩) (args_list_sort _)))
  obtain ⟨ys, a1, a2, a3⟩ := sorted_out_str are hp hs
  generalize (arrOf st).map (·.2) = out at a1 ⊢
  obtain ⟨c, hc⟩ := sortedHeap_at (vs := vs) (out := out) at1
  have lo : out.toList.length ≤ sizeLine := by rw [a1.length, a2.length_eq, List.length_map]; exact lz
  refine wpAny_pure ⟨_, rfl, q _ s1.heap.objs.size out.toList c ys (fun b u e => ?_) z1 g1 o1 (by rw [Array.toArray_toList]; exact hc) a1 a3 ?_ (fun z => ?_) lo⟩
  · have e1 := k1 b u e
    have lt := Heap.lt_size e1
    show (sortedHeap (s1.heap.push (seqObj "list" vs.toArray 0)) s1.heap.objs.size vs out).get? b = some u
    rw [sortedHeap_old (Nat.ne_of_lt lt) (by rw [Heap.size_push]; exact Nat.lt_succ_of_lt lt)]
    exact Heap.get?_push_of_some _ e1
  · exact a2.nodup_iff.mpr (nodup_of_map _ (pk.nodup_iff.mpr nd))
  · rw [a2.mem_iff]
    have e1 : Sum.inr z ∈ (vs.map zOf).map (Sum.inr : Str → Key) ↔ z ∈ vs.map zOf := ⟨fun h => by
      obtain ⟨y, hy, e⟩ := List.mem_map.mp h
      cases e; exact hy, fun h => List.mem_map_of_mem h⟩
    have e2 : Sum.inr z ∈ xs.map (Sum.inr : Str → Key) ↔ z ∈ xs := ⟨fun h => by
      obtain ⟨y, hy, e⟩ := List.mem_map.mp h
      cases e; exact hy, fun h => List.mem_map_of_mem h⟩
    rw [← e1, pk.mem_iff, all, e2]
theorem sorted_int {xs : List Int} (R : SetM w s.heap a L) (hh : A.handled = none) (all : ∀ k, k ∈ L ↔ k ∈ xs.map Sum.inl) {Q : Value → Shared → Prop}
    (q : ∀ (s2 : Shared) (p : Addr) (out : List Value) (c : Nat) (ys : List Int), (∀ b o, s.heap.get? b = some o → s2.heap.get? b = some o) → s.heap.objs.size ≤ p → s2.gens = s.gens → s2.os = s.os → s2.heap.get? p = some (seqObj "list" out.toArray c) →
      IntsAre out ys → ys.Pairwise (· ≤ ·) → ys.Nodup → (∀ z, z ∈ ys ↔ z ∈ xs) → out.length ≤ sizeLine → Q (.ref p) s2) : wpAny (model P w) A (call (.builtin "sorted") [.ref a]) Q E s := by
  obtain ⟨o, es, ep, t, ⟨g, ex, d⟩, ent, pm, nd, few, fit, ris, led⟩ := R
  have zs : es.size = L.length := by rw [pm.length_eq, List.length_map, Array.length_toList]
  refine Calls.call_function_entry kind_sorted plain_sorted entry_sorted (args_sorted1 _) ?_
  unfold Builtin.«sorted»
  refine wpAny_bind (m := checkCount "sorted" 1 1 _) (wpAny_pure ?_)
  refine wpAny_bind (collect_set (A := A.in1) hh ⟨o, g, ex.1, d⟩ fit (by omega) ris led fun s1 vs k1 z1 g1 o1 p1 => ?_)
  have lv : vs.length = L.length := by rw [p1.length_eq, List.length_map, Array.length_toList, zs]
  have lz : vs.length ≤ sizeLine := by rw [lv]; exact fits_of_scanBound few
  obtain ⟨each, pk⟩ := ent_ints ent pm p1 fun k hk => by
    obtain ⟨z, _, rfl⟩ := List.mem_map.mp ((all k).mp hk)
    exact ⟨z, rfl⟩
  have are := ints_of' vs each
  refine wpAny_bind (wpAny_newList ?_ lz)
  have at1 : (s1.heap.push (seqObj "list" vs.toArray 0)).get? s1.heap.objs.size = some (seqObj "list" vs.toArray 0) := Heap.get?_push_size _ rfl
  refine wpAny_bind (wpAny_holding (wpAny_call_entry slot_list_sort ⟨_, at1, rfl⟩ entry_list_sort (list_sort_treeAny at1 are lz fun out ys a1 a2 a3 => ⟨_, rfl, ?_⟩) (args_list_sort _)))

  obtain ⟨c, hc⟩ := sortedHeap_at (vs := vs) (out := out) at1
  have lo : out.toList.length ≤ sizeLine := by rw [a1.length, a2.length_eq, List.length_map]; exact lz
  refine wpAny_pure ⟨_, rfl, q _ s1.heap.objs.size out.toList c ys (fun b u e => ?_) z1 g1 o1 (by rw [Array.toArray_toList]; exact hc) a1 a3 ?_ (fun z => ?_) lo⟩
  · have e1 := k1 b u e
    have lt := Heap.lt_size e1
    show (sortedHeap (s1.heap.push (seqObj "list" vs.toArray 0)) s1.heap.objs.size vs out).get? b = some u
    rw [sortedHeap_old (Nat.ne_of_lt lt) (by rw [Heap.size_push]; exact Nat.lt_succ_of_lt lt)]
    exact Heap.get?_push_of_some _ e1
  · exact a2.nodup_iff.mpr (nodup_of_map _ (pk.nodup_iff.mpr nd))
  · rw [a2.mem_iff]
    have e1 : Sum.inl z ∈ (vs.map nOf).map (Sum.inl : Int → Key) ↔ z ∈ vs.map nOf := ⟨fun h => by
      obtain ⟨y, hy, e⟩ := List.mem_map.mp h
      cases e; exact hy, fun h => List.mem_map_of_mem h⟩
    have e2 : Sum.inl z ∈ xs.map (Sum.inl : Int → Key) ↔ z ∈ xs := ⟨fun h => by
      obtain ⟨y, hy, e⟩ := List.mem_map.mp h
      cases e; exact hy, fun h => List.mem_map_of_mem h⟩
    rw [← e1, pk.mem_iff, all, e2]
end
section
variable {X : Cx}
/-- sorted(a set), its members texts or ints -/
def rSortM (w : World) : List V → Hp → VK → Prop := fun vs H Q => ∃ (a : Addr) (L : List Key), vs = [V.ref a] ∧ H a = some (SetMO w a L) ∧
  ((∃ xs : List Str, (∀ k, k ∈ L ↔ k ∈ xs.map Sum.inr) ∧ ∀ (ys : List Str) (p : Addr), sortedS ys = true → ys.Nodup → (∀ z, z ∈ ys ↔ z ∈ xs) → H p = none → Q (.ref p) (upd H p (.lst (ys.map V.str)))) ∨
   (∃ xs : List Int, (∀ k, k ∈ L ↔ k ∈ xs.map Sum.inl) ∧ ∀ (ys : List Int) (p : Addr), ys.Pairwise (· ≤ ·) → ys.Nodup → (∀ z, z ∈ ys ↔ z ∈ xs) → H p = none → Q (.ref p) (upd H p (.lst (ys.map V.int)))))
theorem cr_sortM (hc : X.calm = true) : CallR X (.builtin "sorted") (rSortM X.w) := by
  intro pins s σ H vs us Q I r ⟨a, L, ev, ha, h⟩
  subst ev
  rw [Vals.ref1 r]
  have R := setMO_get I ha
  have fin : ∀ (s2 : Shared) (p : Addr) (out : List Value) (c : Nat) (ws : List V), (∀ b o, s.heap.get? b = some o → s2.heap.get? b = some o) → s.heap.objs.size ≤ p → s2.gens = s.gens → s2.os = s.os → s2.heap.get? p = some (seqObj "list" out.toArray c) → Vals ws out → out.length ≤ sizeLine →
      (H p = none → Q (.ref p) (upd H p (.lst ws))) → EP X pins σ Q (.ref p) s2 := fun s2 p out c ws k hp g o hg hv lz q => by
    have hn : H p = none := I.hok.fresh hp
    have J : Inv X pins σ (upd H p (.lst ws)) { s with heap := s2.heap, gens := s2.gens, drawn := s2.drawn, toks := s2.toks } :=
      I.call (ch := []) (Un.laid k hp hn) (I.hok.laid k hp ⟨by rw [Paired.length hv]; exact lz, out, c, hv, hg⟩) (by rw [g]; exact I.bare) (fun _ z => nomatch z)
    have e : s2 = { s with heap := s2.heap, gens := s2.gens, drawn := s2.drawn, toks := s2.toks } := by
      obtain ⟨_, _, _, _, _⟩ := s2
      obtain ⟨_, _, _, _, _⟩ := s
      cases o
      rfl
    rw [e]
    exact ⟨.ref p, _, J, rfl, q hn⟩
  rcases h with ⟨xs, all, q⟩ | ⟨xs, all, q⟩
  · exact sorted_str R (I.ok.hd hc) all fun s2 p out c ys k hp g o hg hi hs nd mem lz => fin s2 p out c _ k hp g o hg (vals_of_strs hi) lz fun hn => q ys p hs nd mem hn
  · exact sorted_int R (I.ok.hd hc) all fun s2 p out c ys k hp g o hg hi hs nd mem lz => fin s2 p out c _ k hp g o hg (vals_of_ints hi) lz fun hn => q ys p hs nd mem hn
end
end Ss
namespace Ss
open PySem PySem.Spec PyProof.Rows L2 Sw
section
variable {X : Cx} {pl : List (Addr × Obj)} {σ : L2.St} {H H' : Hp} {s : Shared}
/-- the set at D takes y -/
def SPut (w : World) (H : Hp) (D : Addr) (y : V) (H' : Hp) : Prop := ∃ (L : List Key) (k : Key), y = kV k ∧ H D = some (SetMO w D L) ∧ L.length + 1 < scanBound ∧ ∃ L', Ins L k L' ∧ H' = upd H D (SetMO w D L')
theorem sput_ok {E : Value → Shared → Prop} {D : Addr} {y : V} {u : Value} {Q : Value → Shared → Prop} (J : Inv X pl σ H s) (ry : RelV y u) (p : ∃ (L : List Key) (k : Key), y = kV k ∧ H D = some (SetMO X.w D L) ∧ L.length + 1 < scanBound ∧ ∀ L', Ins L k L' → ∀ s', Inv X pl σ (upd H D (SetMO X.w D L')) s' → Q .none s') :
    wpAny (model X.prog X.w) X.A (call (.builtin "set.add") [.ref D, u]) Q E s := by
  obtain ⟨L, k, rfl, at_, room, q⟩ := p
  have R := setMO_get J at_
  have ki : keyIs k u = true := kV_is (P := X.prog) (w := X.w) ry
  have ty : s.TypeIs (.ref D) "set" := by
    obtain ⟨o, _, _, _, ⟨g1, g2, _⟩, _⟩ := R
    exact ⟨o, g1, g2.1⟩
  refine wpAny_call_entry PySem.F.slot_set_add ty PySem.F.entry_set_add ?_ (PySem.F.args_set_add_2 _ _)
  unfold Builtin.«set.add» Builtin.Frozenset.oneOther
  simp only [List.isEmpty_nil, bind_assoc]
  unfold Builtin.Frozenset.addrOf setAdd
  refine wpAny_bind (wpAny_pure ?_)
  try dsimp only
  refine wpAny_bind (wpAny_pure ?_)
  try dsimp only
  refine wpAny_bind (wpAny_holding (wpAny_bind ((mixKind X.prog X.w).pyHash (k := k) ki ?_)))
  refine add_hashed (s := { s with toks := s.toks + 1 }) R ki room fun h' b L' sb R3 nx => ?_
  show wpAny _ _ (ret Value.none) _ _ _
  exact wpAny_pure ⟨_, rfl, q L' nx _ (J.write (e := D) (t' := s.toks + 1) (by rw [at_]; trivial) (.inl rfl) (fun b u hb hu => (sb.2 b hb).trans hu) R3.there (setMO_new R3))⟩
/-- {e for target in iter if ..} by its turns -/
def tScP (w : World) (wi : TI) (g : TG) (tt : TT) (te : TE) (vs : List Nat) : TE := fun σ H Q => wi σ H fun J H1 => ∀ D, H1 D = none → ∃ (n : Nat) (Pv : Nat → Hp → Prop), Pv 0 (upd H1 D (SetMO w D [])) ∧ (∀ G, Pv n G → J.stop n G ∧ Q (.ref D) G) ∧
  ∀ i G, i < n → Pv i G → J.go i G ∧ ∀ x G1, J.yld i G x G1 → g x (wipe σ vs) G1 fun σ2 G2 => wipe σ2 vs = wipe σ vs ∧ tt σ2 G2 fun b G3 => if b = true then te σ2 G3 fun y G4 => ∃ (L : List Key) (k : Key), y = kV k ∧ G4 D = some (SetMO w D L) ∧ L.length + 1 < scanBound ∧ ∀ L', Ins L k L' → Pv (i + 1) (upd G4 D (SetMO w D L')) else Pv (i + 1) G3
theorem pe_scP {ex tg iter : Expr} {ifs : List Expr} {sc : Scope} {own : List (Str × Nat)} {pos : Pos} {wi : TI} {g : TG} {tt : TT} {te : TE} (hc : X.calm = true) (hN : X.N.Nodup) (hi : PI X tg iter wi) (ok : BlkOk X.N X.env.scope sc own)
    (hg : ∀ (s : Shared) (H : Hp) (C : Addr) (cl : List (Str × Addr)) (fp : List Addr), PG (X.blk s H sc (compEnvC sc cl C X.env) fp) tg g) (ht : ∀ (s : Shared) (H : Hp) (C : Addr) (cl : List (Str × Addr)) (fp : List Addr), PTs (X.blk s H sc (compEnvC sc cl C X.env) fp) ifs tt)
    (he : ∀ (s : Shared) (H : Hp) (C : Addr) (cl : List (Str × Addr)) (fp : List Addr), PE (X.blk s H sc (compEnvC sc cl C X.env) fp) ex te) (hs : ∀ x, foldedSetIterable iter X.env x = pure x := by intro _; rfl) :
    PE X (.SetComp ex [⟨tg, iter, ifs, 0⟩] sc pos) (tScP X.w wi g tt te (own.map (·.2))) := by
  constructor
  intro pl s σ H Q I h
  rw [PpSet.eval_SetComp]
  have clo : closureFor sc X.env = pure (cloFrom X.env.cells sc.names []) := closure_ok fun y hy e => I.ok.has _ ((ok.free y hy e).imp id id)
  refine wpAny_comprehension_free (use := none) rfl hs clo ok.kind (fun y hy e => (ok.uniq y hy).trans (by rw [e])) ?_
  refine thn (hi.run pl s σ H _ I h) fun _ s1 q1 => thn q1 ?_
  rintro _ s2 ⟨it, fp, tn, J, H2, rfl, I2, T, t2, f2, h2⟩
  refine PpSet.newSet_ok ?_
  refine newEnv_comp ?_
  -- the new dict is tracked
  have new := I2.hok.fresh (Nat.le_refl s2.heap.objs.size)
  obtain ⟨n, Pv, p0, pEnd, pTurn⟩ := h2 _ new
  have I3 : Inv X pl σ (upd H2 s2.heap.objs.size (SetMO X.w s2.heap.objs.size [])) { s2 with heap := s2.heap.push (bare (!X.w.params.followText "set-order")) } := I2.laid (t' := s2.toks) (fun _ _ z => Heap.get?_push_of_some _ z) (Nat.le_refl _) (setMO_new setM_void)
  have fpOld : ∀ b ∈ fp, b < s2.heap.objs.size := fun b hb => let ⟨_, e, _⟩ := T.obj _ _ t2 b hb; Heap.lt_size e
  have fpFree : ∀ b ∈ fp, upd H2 s2.heap.objs.size (SetMO X.w s2.heap.objs.size []) b = none := fun b hb => (upd_ne (Nat.ne_of_lt (fpOld b hb))).trans (f2 b hb).1
  generalize hs3 : ({ s2 with heap := s2.heap.push (bare (!X.w.params.followText "set-order")) } : Shared) = s3 at I3
  have old3 : ∀ b o, s2.heap.get? b = some o → s3.heap.get? b = some o := fun b o z => by rw [← hs3]; exact Heap.get?_push_of_some _ z
  have f3 : ∀ b ∈ fp, FpOk X pl (upd H2 s2.heap.objs.size (SetMO X.w s2.heap.objs.size [])) b ∧ b < s3.heap.objs.size := fun b hb => ⟨⟨fpFree b hb, (f2 b hb).2⟩, let ⟨o, e, _⟩ := T.obj _ _ t2 b hb; Heap.lt_size (old3 b o e)⟩
  have I4 := block_start (own := own) I3 ok hN f3
  generalize hD : s2.heap.objs.size = D at *
  generalize hB : upd H2 D (SetMO X.w D []) = HB at *
  show codeAny _ _ (.compStart (.SetComp ex [⟨tg, iter, ifs, 0⟩] sc pos) 0 (.ref it) (.ref D) (compEnvC sc (cellsFrom (s3.heap.objs.size + 1) sc.names (cloFrom X.env.cells sc.names [])) s3.heap.objs.size X.env)) (compPost (model X.prog X.w) X.A X.xe none (EP X pl σ Q) (.ref D) s3.heap.objs.size) { s3 with heap := pushCells (s3.heap.push { cls := .type "dict", data := .dict #[] }) sc.names }
  have rg := hg s3 HB s3.heap.objs.size (cellsFrom (s3.heap.objs.size + 1) sc.names (cloFrom X.env.cells sc.names [])) fp
  have rt := ht s3 HB s3.heap.objs.size (cellsFrom (s3.heap.objs.size + 1) sc.names (cloFrom X.env.cells sc.names [])) fp
  have rv := he s3 HB s3.heap.objs.size (cellsFrom (s3.heap.objs.size + 1) sc.names (cloFrom X.env.cells sc.names [])) fp
  have locs : (compEnvC sc (cellsFrom (s3.heap.objs.size + 1) sc.names (cloFrom X.env.cells sc.names [])) s3.heap.objs.size X.env).locals = s3.heap.objs.size := rfl
  generalize compEnvC sc (cellsFrom (s3.heap.objs.size + 1) sc.names (cloFrom X.env.cells sc.names [])) s3.heap.objs.size X.env = en at I4 rg rt rv locs ⊢
  generalize hs4 : ({ s3 with heap := pushCells (s3.heap.push { cls := .type "dict", data := .dict #[] }) sc.names } : Shared) = s4 at I4 ⊢
  have t4 : tn 0 s4.heap := T.keep _ _ _ t2 fun b _ o z => by rw [← hs4]; exact pushCells_keeps _ _ _ _ (Heap.get?_push_of_some _ (old3 b o z))
  have inFp : ∀ {τ : L2.St} {G : Hp} {s' : Shared}, Inv (X.blk s3 HB sc en fp) [] τ G s' → (∀ b ∈ fp, G b = none) → ∀ b ∈ fp, FpOk (X.blk s3 HB sc en fp) [] G b := fun {τ G s'} K z b hb =>
    ⟨z b hb, (K.ok.exf b hb).1, K.ok.exfs b hb, .inl hb, fun x c => (K.ok.exf b hb).2 x c, fun q hq => by cases hq⟩
  -- the loop
  have lp : codeAny (model X.prog X.w) X.A (.compLoop (.SetComp ex [⟨tg, iter, ifs, 0⟩] sc pos) 0 (.ref it) (.ref D) en) (compPost (model X.prog X.w) X.A X.xe none (EP X pl σ Q) (.ref D) s3.heap.objs.size) s4 := by
    refine PpSet.compLoopS_any (fun m s' => ∃ i G, m = n - i ∧ i ≤ n ∧ Inv (X.blk s3 HB sc en fp) [] (wipe σ (own.map (·.2))) G s' ∧ tn i s'.heap ∧ (∀ b ∈ fp, G b = none) ∧ Pv i G) ?_ n ⟨0, HB, rfl, Nat.zero_le _, I4, t4, fpFree, p0⟩
    rintro m s5 ⟨i, G, rfl, hle, I5, t5, f5, p5⟩
    by_cases hlt : i < n
    · obtain ⟨go, turn⟩ := pTurn i G hlt p5
      refine thnF (T.item (X.blk s3 HB sc en fp) rfl rfl rfl hc i [] s5 _ G (fun _ _ => False) I5 (inFp I5 f5) t5 go) ?_
      rintro r s6 ⟨u, rfl, h6⟩
      refine thnF h6 ?_
      rintro _ s7 ⟨x, G1, I7, r7, y7, t7, f7⟩
      have I7p := I7.pinned (inFp I7 f7) (T.obj _ _ t7)
      refine thnF (rg.run _ s7 _ G1 x u _ I7p r7 (turn x G1 y7)) ?_
      rintro _ s8 ⟨τ, G2, I8, wp, q8⟩
      refine thnF (rt.run _ s8 τ G2 _ I8 q8) ?_
      -- what ends a turn
      have next : ∀ {s' : Shared} {G' : Hp}, Inv (X.blk s3 HB sc en fp) ([] ++ pinsAt fp s7.heap) τ G' s' → Pv (i + 1) G' → ∃ m, m < n - i ∧ ∃ i G, m = n - i ∧ i ≤ n ∧ Inv (X.blk s3 HB sc en fp) [] (wipe σ (own.map (·.2))) G s' ∧ tn i s'.heap ∧ (∀ b ∈ fp, G b = none) ∧ Pv i G := fun {s' G'} K p => by
        have pin : ∀ b ∈ fp, ∀ o, s7.heap.get? b = some o → s'.heap.get? b = some o ∧ G' b = none := fun b hb o e =>
          have z := K.pin (b, o) (by simp [mem_pinsAt hb e])
          ⟨z.1, z.2.1⟩
        refine ⟨n - (i + 1), by omega, i + 1, G', rfl, hlt, (K.unpinned (pins := [])).weak (by rw [← wp, wipe_length]) (fun j v e => (wipe_some (by rw [wp]; exact e)).1), T.keep _ _ _ t7 fun b hb o e => (pin b hb o e).1, fun b hb => ?_, p⟩
        obtain ⟨o, e, _⟩ := T.obj _ _ t7 b hb
        exact (pin b hb o e).2
      rintro b s9 ⟨G3, I9, q9⟩
      cases b with
      | true =>
        rw [if_pos rfl] at q9 ⊢
        refine thnF (rv.run _ s9 τ G3 _ I9 q9) ?_
        rintro vu s11 ⟨y, G4, I11, ry, L, k, ey, at4, room, p⟩
        exact sput_ok (X := X.blk s3 HB sc en fp) I11 ry ⟨L, k, ey, at4, room, fun L' nx s' I12 => next I12 (p L' nx)⟩
      | false =>
        rw [if_neg Bool.false_ne_true] at q9 ⊢
        exact next I9 q9
    · obtain rfl : i = n := by omega
      obtain ⟨stop, q⟩ := pEnd G p5
      refine thnF (T.done (X.blk s3 HB sc en fp) rfl rfl rfl hc i [] s5 _ G (fun _ _ => False) I5 (inFp I5 f5) t5 stop) ?_
      rintro r s6 ⟨rfl, I6⟩
      have I7 : Inv X pl σ G s6 := I3.call' (ch := fp) I6.os I6.base I6.hok I6.bare fun b hb => by
        obtain ⟨⟨_, a1, _, a3, a4, a5⟩, _⟩ := f3 b hb
        exact ⟨a3, a1, a4, a5⟩
      have gone : G s3.heap.objs.size = none := by rw [← locs]; exact I6.free
      obtain ⟨mm, ns, _⟩ := I6.loc
      have ns : s6.heap.Ns s3.heap.objs.size mm := by rw [← locs]; exact ns
      obtain ⟨b0, b1, _, b3, b4, b5⟩ := I3.fpOk (Nat.le_refl _) gone
      exact ⟨mm, ns, fun g sb => ⟨.ref D, G, I7.turned (t' := s6.toks) (fun b o hb e => (sb.2 b hb).trans e) b0 b1 b3 b4 b5, rfl, q⟩⟩
  exact PpSet.codeAny_compStart_set lp (T.self X.A 0 _ _ _ t4 lp)
end
end Ss
namespace Ss
open PySem PySem.Spec PyProof.Rows L2 Sw
/-! ### sets of tuples of ints and texts, fewer than 64 -/
abbrev IsK (P : Program) (w : World) (h : Heap) (k : List Key) (b : Addr) : Prop := IsTupleKey (mixKind P w) h k b
abbrev kHash (P : Program) (w : World) (k : List Key) : Int := tupleKeyHash (mixKind P w) k
abbrev Row := Addr × List Key
section
variable {P : Program} {w : World} {A : Around} {E : Value → Shared → Prop} {s : Shared}
theorem each_key {k : List Key} {vs : List Value} (h : ItemsAre (mixKind P w) k vs) : ∀ v ∈ vs, ∃ j, keyIs j v = true := by
  induction h with
  | nil => intro v hv; cases hv
  | @cons j v' js us h1 _ ih =>
    intro v hv
    rcases List.mem_cons.mp hv with rfl | hv
    · exact ⟨j, h1⟩
    · exact ih v hv
theorem scal_class {j : Key} {v : Value} (h : keyIs j v = true) (n : Nat) : ofAClassStatement n v = pure false := by
  rcases keyIs_shape h with ⟨i, t, _, rfl⟩ | ⟨z, t, _, rfl⟩ <;> cases n <;> rfl
theorem scal_byVal {j : Key} {v : Value} (h : keyIs j v = true) (n : Nat) : hashByValue n v = pure (plainKind v) := hashByValue_scannable n (is_scan h)
theorem tup_class {k : List Key} {b : Addr} {Q : Bool → Shared → Prop} (hk : IsK P w s.heap k b) (q : Q false s) : wpAny (model P w) A (ofAClassStatement 8 (.ref b)) Q E s := by
  have ty := hk.typeIs
  obtain ⟨o, items, n, g, _, d, its⟩ := hk
  unfold ofAClassStatement
  refine wpAny_bind (wpAny_typeOf ty ?_)
  dsimp only
  rw [if_pos (show (("tuple" : String) == "tuple") = true by decide)]
  try simp only [Bool.not_true, Bool.false_eq_true, if_false]
  refine wpAny_bind (m := seqItems? (.ref b)) (wpAny_seqItems g d ?_)
  dsimp only
  refine wpAny_bind (show wpAny _ _ (forIn items _ _) _ _ s from ?_)
  rw [← Array.forIn_toList]
  refine wpAny_forIn_list _ (fun rest r s' => r.1 = none ∧ s' = s ∧ ∀ v ∈ rest, ∃ j, keyIs j v = true) _ ?_ ?_ _ _ ⟨rfl, rfl, each_key its⟩
  · rintro v rest r s' ⟨hr, rfl, all⟩
    obtain ⟨j, hj⟩ := all v (List.mem_cons_self ..)
    rw [scal_class hj]
    refine wpAny_bind (wpAny_pure ?_)
    simp only [Bool.false_eq_true, if_false]
    exact wpAny_pure ⟨rfl, rfl, fun u hu => all u (List.mem_cons_of_mem _ hu)⟩
  · rintro ⟨r1, r2⟩ s' ⟨hr, rfl, _⟩
    simp only at hr
    subst hr
    exact wpAny_pure q
theorem tup_byVal {k : List Key} {b : Addr} {Q : Bool → Shared → Prop} (hk : IsK P w s.heap k b) (q : ∀ c, Q c s) : wpAny (model P w) A (hashByValue 8 (.ref b)) Q E s := by
  have ty := hk.typeIs
  obtain ⟨o, items, n, g, _, d, its⟩ := hk
  unfold hashByValue
  refine wpAny_bind (wpAny_specialOf ty PySem.F.slot_tuple_hash.lookup ?_)
  refine (show wpAny _ _ (seqItems? (.ref b) >>= _) _ _ s from wpAny_bind (wpAny_seqItems g d ?_))
  refine wpAny_bind (show wpAny _ _ (forIn items _ _) _ _ s from ?_)
  rw [← Array.forIn_toList]
  refine wpAny_forIn_list _ (fun rest r s' => r.1 = none ∧ s' = s ∧ ∀ v ∈ rest, ∃ j, keyIs j v = true) _ ?_ ?_ _ _ ⟨rfl, rfl, each_key its⟩
  · rintro v rest r s' ⟨hr, rfl, all⟩
    obtain ⟨j, hj⟩ := all v (List.mem_cons_self ..)
    rw [scal_byVal hj]
    refine wpAny_bind (wpAny_pure ?_)
    cases plainKind v with
    | true =>
      simp only [Bool.not_true, Bool.false_eq_true, if_false]
      exact wpAny_pure ⟨rfl, rfl, fun u hu => all u (List.mem_cons_of_mem _ hu)⟩
    | false =>
      simp only [Bool.not_false, if_true]
      exact wpAny_pure (wpAny_pure (q false))
  · rintro ⟨r1, r2⟩ s' ⟨hr, rfl, _⟩
    simp only at hr
    subst hr
    exact wpAny_pure (q true)
/-- nothing shows in a search among such tuples -/
theorem tup_seen {k : List Key} {b : Addr} {Q : Bool → Shared → Prop} (hk : IsK P w s.heap k b) {ys : List Value} (hy : ∀ y ∈ ys, ∃ k' c, y = Value.ref c ∧ IsK P w s.heap k' c) (q : Q false s) :
    wpAny (model P w) A (searchCouldBeSeen (.ref b) ys) Q E s := by
  unfold searchCouldBeSeen
  refine wpAny_bind (wpAny_forIn_list _ (fun rest r s' => r.1 = none ∧ s' = s ∧ ∀ y ∈ rest, ∃ k' c, y = Value.ref c ∧ IsK P w s.heap k' c) _ ?_ ?_ _ _ ⟨rfl, rfl, hy⟩)
  · rintro v rest r s' ⟨hr, rfl, all⟩
    obtain ⟨k', c, rfl, hc⟩ := all v (List.mem_cons_self ..)
    have tl : ∀ y ∈ rest, ∃ k' c, y = Value.ref c ∧ IsK P w s'.heap k' c := fun u hu => all u (List.mem_cons_of_mem _ hu)
    dsimp only
    by_cases same : (b == c || (carriedByValue (.ref b) && carriedByValue (.ref c))) = true
    · exact wp_if_pos same (wpAny_pure ⟨rfl, rfl, tl⟩)
    · refine wp_if_neg same (wpAny_bind (wpAny_eqIsQuiet_tuple hk ?_))
      simp only [Bool.not_true, Bool.false_eq_true, if_false]
      refine wpAny_bind (wpAny_eqIsQuiet_tuple hc ?_)
      simp only [Bool.not_true, Bool.false_eq_true, if_false]
      refine wpAny_bind (tup_class hk ?_)
      simp only [Bool.false_eq_true, if_false]
      refine wpAny_bind (tup_class hc ?_)
      simp only [Bool.false_eq_true, if_false]
      exact wpAny_pure ⟨rfl, rfl, tl⟩
  · rintro ⟨r1, r2⟩ s' ⟨hr, rfl, _⟩
    simp only at hr
    subst hr
    exact wpAny_pure q
/-- the rows of the table -/
def rowE (P : Program) (w : World) (p : Row) : Int × Value := (kHash P w p.2, .ref p.1)
structure SetQ (P : Program) (w : World) (h : Heap) (a : Addr) (L : List Row) (es : Array (Int × Value)) (ep : Nat) (t : SetTable) : Prop where
  ob : ∃ o, h.get? a = some o ∧ o.ExactSet ∧ o.data = .set es ep t
  rows : es.toList = L.map (rowE P w)
  tab : TabOk t (L.map fun p => kHash P w p.2)
  nd : (L.map (·.2)).Nodup
  tup : ∀ p ∈ L, IsK P w h p.2 p.1
  led : w.params.followText "set-order" = true ∨ t.led = true
  room : L.length * 5 < t.mask * 3
  few : L.length < 64
variable {a : Addr} {L : List Row} {es : Array (Int × Value)} {ep : Nat} {t : SetTable}
theorem rows_len {es : Array (Int × Value)} {L : List Row} (h : es.toList = L.map (rowE P w)) : es.size = L.length := by
  have z := congrArg List.length h
  rwa [Array.length_toList, List.length_map] at z
theorem rows_get {es : Array (Int × Value)} {L : List Row} (h : es.toList = L.map (rowE P w)) {i : Nat} {p : Row} (e : L[i]? = some p) : es[i]? = some (rowE P w p) := by
  rw [← Array.getElem?_toList, h, List.getElem?_map, e]; rfl
theorem SetQ.fits (R : SetQ P w s.heap a L es ep t) : t.fits es.size = true := by
  have z1 := R.tab.sz
  rw [List.length_map] at z1
  have z2 := rows_len R.rows
  have z3 := R.room
  unfold SetTable.fits SetTable.fill
  rw [R.tab.dm, Bool.and_eq_true, beq_iff_eq, decide_eq_true_eq]
  show t.place.size = es.size ∧ t.place.size + 0 ≤ t.mask
  omega
abbrev stp (m : Nat) (h : Int) (c : Nat) : SetTable.Probe := nth m (runAt m (SetTable.bits h % (m + 1)) (SetTable.bits h)) c
theorem stp_dummy (m : Nat) (h : Int) (c : Nat) : (stp m h c).dummy = none := by
  have all : ∀ (n : Nat) (p : SetTable.Probe), p.dummy = none → (nth m p n).dummy = none := fun n => by
    induction n with
    | zero => exact fun p z => z
    | succ n ih => exact fun p z => ih (adv m p) (by unfold adv; split <;> exact z)
  exact all c _ rfl
theorem seek (R : SetQ P w s.heap a L es ep t) {x : Addr} {k : List Key} (hx : IsK P w s.heap k x) (hu : A.units < cLine) {N : Nat} (lim : N < 10 * SetTable.turns t.mask) (free : way t.mask (kHash P w k) N ∉ t.place.toList)
    (used : ∀ c, c < N → way t.mask (kHash P w k) c ∈ t.place.toList) {Q : SetFound → Shared → Prop} (qi : k ∈ L.map (·.2) → Q (.there none) s) (qo : k ∉ L.map (·.2) → Q (.free (way t.mask (kHash P w k) N) false) s) :
    ∀ (f c : Nat) (stand : Option SetTable.Probe), stand.getD (t.probeStart (kHash P w k)) = stp t.mask (kHash P w k) c → c ≤ N → N - c < f →
      (∀ (i : Nat) p, L[i]? = some p → p.2 = k → ∃ c', c ≤ c' ∧ c' < N ∧ t.place.toList[i]? = some (way t.mask (kHash P w k) c')) → wpAny (model P w) A (setSearchFrom a (.ref x) (kHash P w k) true f stand) Q E s
  | 0, c, stand, _, _, hf, _ => absurd hf (Nat.not_lt_zero _)
  | f + 1, c, stand, from_, hc, hf, ahead => by
    obtain ⟨o, g, ex, d⟩ := R.ob
    generalize hH : kHash P w k = Hx at lim free used from_ ahead qo ⊢
    rw [setSearchFrom_succ]
    refine wpAny_bind (wpAny_setState_of g d R.fits ?_)
    dsimp only
    refine wp_if_neg (by unfold SetTable.gaveWay; rw [mask_odd R.tab.mok]; decide) ?_
    try refine wpAny_bind (wpAny_pure ?_)
    have shift : ∀ q, nth t.mask (stp t.mask Hx c) q = stp t.mask Hx (c + q) := fun q => (nth_add t.mask c _ q).symm
    have jq : ∀ q, (nth t.mask (stp t.mask Hx c) q).j = way t.mask Hx (c + q) := fun q => congrArg SetTable.Probe.j (shift q)
    have up : c + (N - c) = N := by omega
    have hashAt : ∀ (i : Nat) p, L[i]? = some p → (es[i]?.map (·.1)).getD 0 = kHash P w p.2 := fun i p hp => by
      rw [rows_get R.rows hp]; rfl
    rcases go_spec t R.tab.ris R.tab.dm (fun i => (es[i]?.map (·.1)).getD 0) Hx (10 * SetTable.turns t.mask) (N - c) _ (stp_dummy t.mask Hx c) (by omega) (fun q hq => by rw [jq]; exact used (c + q) (by omega)) (by rw [jq, up]; exact free) with ⟨q, i, hq, at_i, hh, none_before, found⟩ | ⟨none_before, found⟩
    · have found2 : t.probe (fun i => (es[i]?.map (·.1)).getD 0) Hx (stand.getD (t.probeStart Hx)) = some (.candidate (way t.mask Hx (c + q)) i (stp t.mask Hx (c + (q + 1)))) := by
        rw [from_, ← jq, ← shift]; exact found
      rw [found2]
      dsimp only
      rw [jq] at at_i
      have live := slot_live R.tab.ris at_i
      have il : i < L.length := by
        have z1 := (List.getElem?_eq_some_iff.mp at_i).1
        have z2 := R.tab.sz
        rw [List.length_map] at z2
        rw [Array.length_toList] at z1
        omega
      obtain ⟨p, hp⟩ : ∃ p, L[i]? = some p := ⟨_, List.getElem?_eq_getElem il⟩
      have pm : p ∈ L := List.mem_of_getElem? hp
      have go : wpAny (model P w) A (searchRest a (.ref x) Hx true f es t (way t.mask Hx (c + q)) i (stp t.mask Hx (c + (q + 1)))) Q E s := by
        unfold searchRest
        rw [rows_get R.rows hp]
        dsimp only [rowE]
        refine wpAny_bind (wpAny_holding (wpAny_eqBool_tuple hu (R.tup p pm) hx ?_))
        refine wpAny_bind (wpAny_setState_of g d R.fits ?_)
        dsimp only
        by_cases eq : p.2 = k
        · exact wp_if_pos (by simp [eq]) (wpAny_pure (qi (List.mem_map.mpr ⟨p, pm, eq⟩)))
        · refine wp_if_neg (by simp [eq]) ?_
          try refine wpAny_bind (wpAny_pure ?_)
          rw [sameMem]
          dsimp only
          simp only [if_true, live, rows_get R.rows hp, rowE]
          refine wpAny_bind (wpAny_isSame_ref_self (wpAny_bind (wpAny_pure ?_)))
          simp only [if_true]
          refine wp_if_neg (by simp [eq]) ?_
          subst hH
          refine seek R hx hu lim free used qi qo f (c + (q + 1)) _ rfl (by omega) (by omega) fun i0 p0 h0 e0 => ?_
          obtain ⟨c', a1, a2, a3⟩ := ahead i0 p0 h0 e0
          refine ⟨c', ?_, a2, a3⟩
          rcases Nat.lt_trichotomy c' (c + q) with z | z | z
          · exact absurd ((hashAt i0 p0 h0).trans (congrArg (kHash P w) e0)) (none_before (c' - c) i0 (by omega) (by rw [jq, show c + (c' - c) = c' by omega]; exact a3))
          · rw [z] at a3
            have s0 := slot_live R.tab.ris a3
            rw [live] at s0
            cases s0
            rw [hp] at h0
            exact absurd ((congrArg Prod.snd (Option.some.inj h0)).trans e0) eq
          · omega
      by_cases led : t.led = true
      · refine wp_if_neg (by simp [led]) ?_
        try refine wpAny_bind (wpAny_pure ?_)
        exact go
      · refine wp_if_pos (by simp [led]) (wpAny_bind (tup_seen hx (fun y hy => ?_) ?_))
        · obtain ⟨e, he, rfl⟩ := List.mem_map.mp hy
          have he1 : e ∈ es ∧ e.1 = Hx := by simpa using he
          have he2 : e ∈ es.toList := by simpa using he1.1
          rw [R.rows] at he2
          obtain ⟨p2, hp2, rfl⟩ := List.mem_map.mp he2
          exact ⟨p2.2, p2.1, rfl, R.tup p2 hp2⟩
        · refine wp_if_neg (by decide) ?_
          try refine wpAny_bind (wpAny_pure ?_)
          exact go
    · have found2 : t.probe (fun i => (es[i]?.map (·.1)).getD 0) Hx (stand.getD (t.probeStart Hx)) = some (.empty (way t.mask Hx N) none) := by
        have e2 : way t.mask Hx N = (nth t.mask (stp t.mask Hx c) (N - c)).j := by rw [jq, up]
        rw [from_, e2]; exact found
      rw [found2]
      dsimp only
      refine wpAny_pure (qo fun hm => ?_)
      obtain ⟨p0, h0, e0⟩ := List.mem_map.mp hm
      obtain ⟨i0, hi0, ei⟩ := List.getElem_of_mem h0
      have h00 : L[i0]? = some p0 := by rw [List.getElem?_eq_getElem hi0, ei]
      obtain ⟨c', a1, a2, a3⟩ := ahead i0 p0 h00 e0
      exact none_before (c' - c) i0 (by omega) (by rw [jq, show c + (c' - c) = c' by omega]; exact a3) ((hashAt i0 p0 h00).trans ((congrArg (kHash P w) e0).trans hH))
end
end Ss
namespace Ss
open PySem PySem.Spec PyProof.Rows L2 Sw
section
variable {P : Program} {w : World} {A : Around} {E : Value → Shared → Prop} {s : Shared} {a : Addr} {L : List Row} {es : Array (Int × Value)} {ep : Nat} {t : SetTable}
theorem isk_but {h h' : Heap} {k : List Key} {b : Addr} {o : Obj} (x : IsK P w h k b) (g : h.get? a = some o) (d : o.data = .set es ep t) (sb : Heap.SameBut a h h') : IsK P w h' k b := by
  obtain ⟨o2, its, n, g2, c2, d2, i2⟩ := x
  refine ⟨o2, its, n, (sb.2 b fun z => ?_).trans g2, c2, d2, i2⟩
  rw [z, g] at g2
  cases g2
  rw [d] at d2; cases d2
theorem tab_plain {hs : List Int} (T : TabOk t hs) (b : Bool) : TabOk { t with plain := b } hs := ⟨T.ris, T.dm, T.sz, T.mok, T.bd, T.reach⟩
theorem get_rows (h : es.toList = L.map (rowE P w)) : ∀ order : List Nat, (∀ i ∈ order, i < L.length) → order.filterMap (fun i => es[i]?) = (order.filterMap fun i => L[i]?).map (rowE P w) ∧
    ((order.filterMap fun i => L[i]?).map fun p => kHash P w p.2) = order.map fun i => (es.map (·.1)).getD i 0
  | [], _ => ⟨rfl, rfl⟩
  | i :: r, hl => by
    obtain ⟨e1, e2⟩ := get_rows h r fun j hj => hl j (List.mem_cons_of_mem _ hj)
    have li : L[i]? = some (L[i]'(hl i (List.mem_cons_self ..))) := List.getElem?_eq_getElem _
    have ei := rows_get h li
    rw [List.filterMap_cons_some ei, List.filterMap_cons_some li, e1, List.map_cons, List.map_cons, List.map_cons, e2]
    refine ⟨rfl, ?_⟩
    have e3 : (es.map (·.1)).getD i 0 = kHash P w (L[i]'(hl i (List.mem_cons_self ..))).2 := by
      rw [Array.getD_eq_getD_getElem?, Array.getElem?_map, ei]; rfl
    rw [e3]
theorem all_of_range {α : Type} (l : List α) : (List.range l.length).filterMap (fun i => l[i]?) = l := by
  have part : ∀ n, n ≤ l.length → (List.range n).filterMap (fun i => l[i]?) = l.take n := fun n => by
    induction n with
    | zero => exact fun _ => rfl
    | succ n ih =>
      intro hn
      rw [List.range_succ, List.filterMap_append, ih (by omega), List.take_succ, List.getElem?_eq_getElem hn, List.filterMap_cons_some (List.getElem?_eq_getElem hn)]
      rfl
  rw [part _ (Nat.le_refl _), List.take_length]
/-- all rows laid anew in a larger table -/
theorem relay_go {o : Obj} (g : s.heap.get? a = some o) (ex : o.ExactSet) (d : o.data = .set es ep t) (rows : es.toList = L.map (rowE P w)) (sz : t.place.size = es.size) (dm : t.dummies = #[]) (fl : es.size ≤ t.mask) (nd : (L.map (·.2)).Nodup) (tup : ∀ p ∈ L, IsK P w s.heap p.2 p.1)
    (led : w.params.followText "set-order" = true ∨ t.led = true) (few : L.length < 64) {wish M : Nat} (hM : SetTable.sizeAbove wish - 1 = M) (okM : MaskOk M) (top : SetTable.sizeAbove wish ≤ 128) (space : L.length * 5 < M * 3) {Q : Unit → Shared → Prop}
    (q : ∀ h' L' es' ep' t', Heap.SameBut a s.heap h' → SetQ P w h' a L' es' ep' t' → L'.Perm L → Q () { s with heap := h' }) : wpAny (model P w) A (setRelay a wish) Q E s := by
  have el := rows_len rows
  have fits : t.fits es.size = true := by
    unfold SetTable.fits SetTable.fill
    rw [dm, Bool.and_eq_true, beq_iff_eq, decide_eq_true_eq]
    exact ⟨sz, by show t.place.size + 0 ≤ t.mask; omega⟩
  obtain ⟨u, order, er, po, T, em, eled, _, _⟩ := relaid_ok t (hs := es.map (·.1)) (wanted := wish) hM okM (by rw [Array.size_map, el]; omega)
  rw [Array.size_map, el] at po
  obtain ⟨r1, r2⟩ := get_rows rows order.toList fun i hi => List.mem_range.mp (po.mem_iff.mp hi)
  have pL : (order.toList.filterMap fun i => L[i]?).Perm L := (po.filterMap _).trans (.of_eq (all_of_range L))
  rw [← r2] at T
  generalize (order.toList.filterMap fun i => L[i]?) = L2 at r1 pL T
  have r1' : (order.filterMap (es[·]?)).toList = L2.map (rowE P w) := by rw [Array.toList_filterMap]; exact r1
  have s2 : (order.filterMap (es[·]?)).size = es.size := by rw [rows_len r1', pL.length_eq, el]
  rw [setRelay_eq]
  refine wpAny_bind (wpAny_setState_of g d fits ?_)
  dsimp only
  refine wp_if_neg (by rw [sizeLine_eq]; omega) ?_
  try refine wpAny_bind (wpAny_pure ?_)
  rw [er]
  dsimp only
  refine wpAny_bind (wp_if_neg (by rw [s2]; simp) ?_)
  try refine wpAny_bind (wpAny_pure ?_)
  refine wpAny_pure ?_
  dsimp only
  refine wpAny_storeSet_of g d ?_ (by rw [s2, el, sizeLine_eq]; omega)
  have sb := Heap.SameBut.update s.heap a (Obj.putSet (order.filterMap (es[·]?)) u)
  exact q _ L2 _ (ep + 1) u sb ⟨⟨_, put_at g d, ⟨ex.1, ex.2.1, ex.2.2⟩, rfl⟩, r1', T, (pL.map (·.2)).nodup_iff.mpr nd, fun p hp => isk_but (tup p (pL.mem_iff.mp hp)) g d sb, by rw [eled]; exact led, by rw [pL.length_eq, em]; exact space, by rw [pL.length_eq]; exact few⟩ pL
/-- what the set has, one more -/
structure InsT (L : List Row) (x : Row) (L' : List Row) : Prop where
  old : x.2 ∈ L.map (·.2) → L' = L
  new : x.2 ∉ L.map (·.2) → L'.Perm (x :: L)
theorem InsT.len {L L' : List Row} {x : Row} (n : InsT L x L') : L'.length ≤ L.length + 1 := by
  rcases Classical.em (x.2 ∈ L.map (·.2)) with h | h
  · rw [n.old h]; omega
  · rw [(n.new h).length_eq]; exact Nat.le_refl _
theorem add_tup (R : SetQ P w s.heap a L es ep t) {x : Addr} {k : List Key} (hx : IsK P w s.heap k x) (hu : A.units < cLine) (few : L.length + 1 < 64) {Q : Bool → Shared → Prop}
    (q : ∀ b h' L' es' ep' t', Heap.SameBut a s.heap h' → SetQ P w h' a L' es' ep' t' → InsT L (x, k) L' → Q b { s with heap := h' }) : wpAny (model P w) A (setAddHashed a (.ref x) (kHash P w k)) Q E s := by
  obtain ⟨o, g, ex, d⟩ := R.ob
  have el := rows_len R.rows
  have room := R.room
  unfold setAddHashed
  refine wpAny_holding ?_
  rw [show (100000 : Nat) = 99999 + 1 from rfl, setAddHashedIn_succ]
  refine wpAny_bind (wpAny_setState_of g d R.fits ?_)
  dsimp only
  refine wp_if_neg (by simp [byScan, Value.scannable]) ?_
  try refine wpAny_bind (wpAny_pure ?_)
  obtain ⟨N, lim, free, used⟩ := R.tab.first (by rw [List.length_map]; omega) (kHash P w k)
  have big : N < 100000 := by
    have : 10 * SetTable.turns t.mask ≤ 1420 := by
      unfold SetTable.turns
      rcases R.tab.mok with e | e | e <;> omega
    omega
  unfold setSearch
  refine wpAny_bind (seek R hx hu lim free used (fun hin => ?_) (fun out => ?_) 100000 0 none rfl (Nat.zero_le _) (by omega) fun i p hp hk => ?_)
  · dsimp only
    exact wpAny_pure (q false s.heap L es ep t (Heap.SameBut.refl a s.heap) R ⟨fun _ => rfl, fun z => absurd hin z⟩)
  · dsimp only
    refine wpAny_bind (wpAny_setState_of g d R.fits ?_)
    dsimp only
    obtain ⟨p1, p2, p3, p4, p5, p6, p7, p8, p9⟩ := R.tab.put free used
    have ld0 : w.params.followText "set-order" = true ∨ (t.put (way t.mask (kHash P w k) N)).1.led = true := by rw [p5]; exact R.led
    generalize t.put (way t.mask (kHash P w k) N) = pt at p1 p3 p4 p9 ld0 ⊢
    obtain ⟨t1, at_⟩ := pt
    dsimp only at p1 p3 p4 p9 ld0 ⊢
    subst p1
    -- the new rows
    generalize SetTable.below t.place (way t.mask (kHash P w k) N) = j at p2 p3 ⊢
    have rows1 : (SetTable.insertAt es j (kHash P w k, Value.ref x)).toList = (L.take j ++ (x, k) :: L.drop j).map (rowE P w) := by
      rw [SetTable.toList_insertAt, R.rows, List.map_append, List.map_cons, List.map_take, List.map_drop]; rfl
    have pm : (L.take j ++ (x, k) :: L.drop j).Perm ((x, k) :: L) := by
      have z : (L.take j ++ (x, k) :: L.drop j).Perm ((x, k) :: (L.take j ++ L.drop j)) := List.perm_middle
      rwa [List.take_append_drop] at z
    have tab1 : TabOk t1 ((L.take j ++ (x, k) :: L.drop j).map fun p => kHash P w p.2) := by
      rw [List.map_append, List.map_cons, List.map_take, List.map_drop]; exact p3
    have size1 := rows_len rows1
    rw [pm.length_eq, List.length_cons] at size1
    have nd1 : ((L.take j ++ (x, k) :: L.drop j).map (·.2)).Nodup := (pm.map (·.2)).nodup_iff.mpr (List.nodup_cons.mpr ⟨out, R.nd⟩)
    generalize SetTable.insertAt es j (kHash P w k, Value.ref x) = es1 at rows1 size1 ⊢
    generalize L.take j ++ (x, k) :: L.drop j = L1 at pm tab1 nd1 rows1
    have n1 : L1.length = L.length + 1 := pm.length_eq
    -- behind the store
    have rest : ∀ t2 : SetTable, TabOk t2 (L1.map fun p => kHash P w p.2) → t2.mask = t1.mask → t2.fill = t1.fill → (w.params.followText "set-order" = true ∨ t2.led = true) → wpAny (model P w) A (do
        storeSet a es1 t2
        if (!false && t2.tooFull) = true then setRelay a (SetTable.grown (es.size + 1))
        pure true) Q E s := fun t2 T2 em ef ld2 => by
      refine wpAny_bind (wpAny_storeSet_of g d ?_ (by rw [size1, sizeLine_eq]; omega))
      have sb := Heap.SameBut.update s.heap a (Obj.putSet es1 t2)
      have g1 := put_at (fs := es1) (u := t2) g d
      generalize s.heap.update a (Obj.putSet es1 t2) = h1 at sb g1 ⊢
      have tup1 : ∀ p ∈ L1, IsK P w h1 p.2 p.1 := fun p hp => by
        rcases List.mem_cons.mp (pm.mem_iff.mp hp) with rfl | hp
        · exact isk_but hx g d sb
        · exact isk_but (R.tup p hp) g d sb
      have full : t2.tooFull = true ↔ (L.length + 1) * 5 ≥ t.mask * 3 := by
        unfold SetTable.tooFull
        rw [decide_eq_true_eq, ef, p9, List.length_map, em, p4]
      have sz1 : t2.place.size = es1.size := by rw [T2.sz, List.length_map, n1, size1]
      by_cases hf : t2.tooFull = true
      · have hfull := full.mp hf
        first
          | (refine wpAny_bind ?_; refine wp_if_pos (by simp [hf]) ?_)
          | (refine wp_if_pos (by simp [hf]) ?_; refine wpAny_bind ?_)
        rw [el]
        have two : (t.mask = 7 ∧ L.length = 4) ∨ (t.mask = 31 ∧ L.length = 18) := by
          rcases R.tab.mok with e | e | e <;> rw [e] at hfull room <;> omega
        have go : ∀ M, SetTable.sizeAbove (SetTable.grown (L.length + 1)) - 1 = M → MaskOk M → SetTable.sizeAbove (SetTable.grown (L.length + 1)) ≤ 128 → (L.length + 1) * 5 < M * 3 →
            wpAny (model P w) A (setRelay a (SetTable.grown (L.length + 1))) (fun _ s' => wpAny (model P w) A (pure true) Q E s') E { s with heap := h1 } := fun M m1 m2 m3 m4 => by
          refine relay_go (s := { s with heap := h1 }) g1 ⟨ex.1, ex.2.1, ex.2.2⟩ rfl rows1 sz1 T2.dm (by rw [size1, em, p4]; rcases two with ⟨e, e2⟩ | ⟨e, e2⟩ <;> omega) nd1 tup1 ld2 (by omega) m1 m2 m3 (by rw [n1]; exact m4) ?_
          intro h2 L2 es2 ep2 u sb2 R2 pm2
          exact wpAny_pure (q true h2 L2 es2 ep2 u (sb.trans sb2) R2 ⟨fun z => absurd z out, fun _ => pm2.trans pm⟩)
        rcases two with ⟨_, e2⟩ | ⟨_, e2⟩
        · exact go 31 (by rw [e2, size_20]) (.inr (.inl rfl)) (by rw [e2, size_20]; decide) (by omega)
        · exact go 127 (by rw [e2, size_76]) (.inr (.inr rfl)) (by rw [e2, size_76]; decide) (by omega)
      · have hfull : ¬ (L.length + 1) * 5 ≥ t.mask * 3 := fun z => hf (full.mpr z)
        first
          | refine wp_if_neg (by simp [hf]) ?_
          | (refine wpAny_bind ?_; refine wp_if_neg (by simp [hf]) ?_; refine wpAny_pure ?_)
        exact wpAny_pure (q true h1 L1 es1 (ep + 1) t2 sb ⟨⟨_, g1, ⟨ex.1, ex.2.1, ex.2.2⟩, rfl⟩, rows1, T2, nd1, tup1, ld2, by rw [n1, em, p4]; omega, by omega⟩ ⟨fun z => absurd z out, fun _ => pm⟩)
    by_cases hp : t1.plain = true
    · first
        | (refine wpAny_bind ?_; refine wp_if_pos hp ?_; refine tup_byVal hx fun c => ?_)
        | refine wp_if_pos hp (wpAny_bind (tup_byVal hx fun c => ?_))
      cases c with
      | true => exact rest t1 tab1 rfl rfl ld0
      | false => exact rest { t1 with plain := false } (tab_plain tab1 false) rfl rfl ld0
    · first
        | (refine wpAny_bind ?_; refine wp_if_neg hp ?_; refine wpAny_pure ?_)
        | refine wp_if_neg hp (wpAny_bind (wpAny_pure ?_))
      exact rest t1 tab1 rfl rfl ld0
  · have hi : (L.map fun p => kHash P w p.2)[i]? = some (kHash P w k) := by rw [List.getElem?_map, hp, ← hk]; rfl
    have hil : i < t.place.toList.length := by
      have z1 : i < L.length := (List.getElem?_eq_some_iff.mp hp).1
      have z2 := R.tab.sz
      rw [List.length_map] at z2
      rw [Array.length_toList]; omega
    obtain ⟨c, hc, e⟩ := R.tab.before free hi (List.getElem?_eq_getElem hil)
    exact ⟨c, Nat.zero_le _, hc, by rw [List.getElem?_eq_getElem hil, e]⟩
end
end Ss
namespace Ss
open PySem PySem.Spec PyProof.Rows L2 Sw
/-! ### rows that come -/
structure CovT (ks : List Row) (i : Nat) (L : List Row) : Prop where
  sub : ∀ p ∈ L, p ∈ ks.take i
  all : ∀ p ∈ ks.take i, p.2 ∈ L.map (·.2)
  len : L.length ≤ i
theorem CovT.next {ks L L' : List Row} {i : Nat} {x : Row} (c : CovT ks i L) (e : ks[i]? = some x) (n : InsT L x L') : CovT ks (i + 1) L' := by
  have t : ks.take (i + 1) = ks.take i ++ [x] := by rw [List.take_succ, e]; rfl
  refine ⟨fun p hp => ?_, fun p hp => ?_, Nat.le_trans n.len (Nat.succ_le_succ c.len)⟩
  · rw [t, List.mem_append, List.mem_singleton]
    rcases Classical.em (x.2 ∈ L.map (·.2)) with h | h
    · rw [n.old h] at hp; exact .inl (c.sub p hp)
    · rcases List.mem_cons.mp ((n.new h).mem_iff.mp hp) with z | z
      · exact .inr z
      · exact .inl (c.sub p z)
  · rw [t, List.mem_append, List.mem_singleton] at hp
    rcases Classical.em (x.2 ∈ L.map (·.2)) with h | h
    · rw [n.old h]
      rcases hp with hp | rfl
      · exact c.all p hp
      · exact h
    · have m := (n.new h).map (·.2)
      rw [m.mem_iff, List.map_cons, List.mem_cons]
      rcases hp with hp | rfl
      · exact .inr (c.all p hp)
      · exact .inl rfl
section
variable {P : Program} {w : World} {A : Around} {R : Result → Shared → Prop} {J : Addr} {fp wr : List Addr} {G : Array GenState → Array GenState → Prop} {n : Nat} {Pv : Nat → Value → Prop} {St : Nat → Shared → Prop}
theorem isk_mono {h h' : Heap} {k : List Key} {b : Addr} (x : IsK P w h k b) (e : ∀ o, h.get? b = some o → h'.get? b = some o) : IsK P w h' k b := by
  obtain ⟨o, its, m, g, r⟩ := x
  exact ⟨o, its, m, e o g, r⟩
theorem SetQ.moved {h h' : Heap} {a : Addr} {L : List Row} {es : Array (Int × Value)} {ep : Nat} {t : SetTable} (S : SetQ P w h a L es ep t) (k : ∀ b o, (b = a ∨ ∃ p ∈ L, p.1 = b) → h.get? b = some o → h'.get? b = some o) : SetQ P w h' a L es ep t := by
  obtain ⟨o, g, r⟩ := S.ob
  exact ⟨⟨o, k a o (.inl rfl) g, r⟩, S.rows, S.tab, S.nd, fun p hp => isk_mono (S.tup p hp) fun o e => k p.1 o (.inr ⟨p, hp, rfl⟩) e, S.led, S.room, S.few⟩
theorem fillT (W : WalksS P w A.in1 J fp wr G n Pv St) (a : Addr) (ha : a ∉ fp) (hu : A.in1.units < cLine) (ks : List Row) (few : n < 63) (kl : ks.length = n) (val : ∀ i v, Pv i v → ∃ p, ks[i]? = some p ∧ v = .ref p.1) (apart : ∀ p ∈ ks, p.1 ∉ fp) :
    ∀ (m i : Nat) (s : Shared) (L : List Row) (es : Array (Int × Value)) (ep : Nat) (t : SetTable), n - i = m → i ≤ n → St i s → SetQ P w s.heap a L es ep t → (∀ p ∈ ks, IsK P w s.heap p.2 p.1) → CovT ks i L →
      (∀ s' L' es' ep' t', Moved (a :: wr) G s s' → SetQ P w s'.heap a L' es' ep' t' → CovT ks n L' → R (.ok (.ret .none)) s') → codeAny (model P w) A (.builtin "set.update.loop" ⟨[.ref a, .ref J], []⟩) R s := by
  have nw : a ∉ wr := fun z => ha (W.sub _ z)
  have up : ∀ b ∈ wr, b ∈ a :: wr := fun b z => List.mem_cons_of_mem _ z
  have offw : ∀ p ∈ ks, p.1 ∉ wr := fun p hp z => apart p hp (W.sub _ z)
  intro m
  induction m with
  | zero =>
    intro i s L es ep t hm hi st S tups cv q
    obtain rfl : i = n := by omega
    refine codeAny_builtin (b := Builtin.«set.update.loop») PyProof.Rows.F.entry_set_update_loop ?_
    rw [show A.under (.builtin "set.update.loop" ⟨[.ref a, .ref J], []⟩) = A.in1 from Around.under_plainId PyProof.Rows.F.plain_set_update_loop _]
    refine wpAny_bind (W.done s _ _ st fun s2 mv => ?_)
    refine wpAny_pure (q s2 L es ep t (mv.mono up) (S.moved fun b o h e => mv.heap b o ?_ e) cv)
    rcases h with rfl | ⟨p, hp, rfl⟩
    · exact nw
    · exact offw p (List.mem_of_mem_take (cv.sub p hp))
  | succ m ih =>
    intro i s L es ep t hm hi st S tups cv q
    have lt : i < n := by omega
    refine codeAny_builtin (b := Builtin.«set.update.loop») PyProof.Rows.F.entry_set_update_loop ?_
    rw [show A.under (.builtin "set.update.loop" ⟨[.ref a, .ref J], []⟩) = A.in1 from Around.under_plainId PyProof.Rows.F.plain_set_update_loop _]
    refine wpAny_bind (W.item i s _ _ lt st fun v s2 pv st2 mv => ?_)
    obtain ⟨p, ep1, rfl⟩ := val i v pv
    have hp : p ∈ ks := List.mem_of_getElem? ep1
    have S2 : SetQ P w s2.heap a L es ep t := S.moved fun b o h e => mv.heap b o (by
      rcases h with rfl | ⟨p, hp, rfl⟩
      · exact nw
      · exact offw p (List.mem_of_mem_take (cv.sub p hp))) e
    have tups2 : ∀ p ∈ ks, IsK P w s2.heap p.2 p.1 := fun p hp => isk_mono (tups p hp) fun o e => mv.heap p.1 o (offw p hp) e
    refine wpAny_bind (m := holding [.ref p.1] (setAdd a (.ref p.1))) (wpAny_holding ?_)
    unfold setAdd
    refine wpAny_holding (wpAny_bind (wpAny_pyHash_tuple hu (tups2 p hp) ?_))
    refine add_tup (s := { s2 with toks := s2.toks + (p.2.length + 1) }) S2 (tups2 p hp) hu (by have := cv.len; omega) fun b h' L' es' ep' t' sb S3 nx => ?_
    obtain ⟨o, g, ex, d⟩ := S2.ob
    refine wpAny_pure ⟨plainId_quiet PyProof.Rows.F.plain_set_update_loop _, ih (i + 1) _ L' es' ep' t' (by omega) lt (W.frame _ s2 _ _ st2 (Nat.le_add_right _ _) fun b hb o z => ?_) S3 (fun p hp => isk_but (tups2 p hp) g d sb) (cv.next ep1 nx) fun s3 L3 es3 ep3 t3 m3 S4 c3 => ?_⟩
    · rw [sb.2 b (fun z2 : b = a => ha (z2 ▸ hb))]; exact z
    · refine q s3 L3 es3 ep3 t3 (Moved.trans W.gtrans ((mv.mono up).then_heap (Nat.le_add_right _ _) fun b o hb z => ?_) m3) S4 c3
      rw [sb.2 b (fun z2 : b = a => hb (z2 ▸ List.mem_cons_self))]; exact z
end
theorem setQ_bare {P : Program} {w : World} {h : Heap} {a : Addr} (g : h.get? a = some (bare (!w.params.followText "set-order"))) : SetQ P w h a [] #[] 0 (.fresh 0 0 (!w.params.followText "set-order")) where
  ob := ⟨_, g, ⟨rfl, rfl, rfl⟩, rfl⟩
  rows := rfl
  tab := ⟨.nil, rfl, rfl, .inl rfl, (fun x hx => by cases hx), (fun i h j e => by simp at e)⟩
  nd := .nil
  tup := fun p hp => by cases hp
  led := by
    show _ ∨ (!w.params.followText "set-order") = true
    cases w.params.followText "set-order" <;> simp
  room := by show 0 * 5 < 7 * 3; decide
  few := by decide
theorem fills_tup {P : Program} {w : World} {s : Shared} {l : Addr} {items : Array Value} {A : Around} {ks : List Row} (hk : ks.length = items.size) (val : ∀ (i : Nat) (v : Value), items[i]? = some v → ∃ p, ks[i]? = some p ∧ v = .ref p.1) (tups : ∀ p ∈ ks, IsK P w s.heap p.2 p.1) (few : items.size < 63)
    (nl : ∀ p ∈ ks, p.1 ≠ l) (hu : A.in1.units < cLine) : Fills P w s l items A fun h' => ∃ L es ep t, SetQ P w h' s.heap.objs.size L es ep t ∧ CovT ks items.size L := by
  intro R J G St s1 W nf lt st e0 keep q
  refine fillT W s.heap.objs.size nf hu ks few hk val (fun p hp z => ?_) (items.size - 0) 0 _ [] _ _ _ (by omega) (Nat.zero_le _) st (setQ_bare e0) (fun p hp => isk_mono (tups p hp) fun o e => keep _ o e) ⟨(fun p hp => by cases hp), (fun p hp => by simp at hp), Nat.le_refl _⟩ fun s' L es ep t mv S cv => ?_
  · obtain ⟨o, its, m, g, _⟩ := tups p hp
    rcases List.mem_cons.mp z with z | z
    · have z1 := Heap.lt_size g
      rw [z] at z1
      exact Nat.lt_irrefl _ (Nat.lt_trans z1 lt)
    · exact nl p hp (List.mem_singleton.mp z)
  · exact q s' mv ⟨L, es, ep, t, S, cv⟩
end Ss
namespace Ss
open PySem PySem.Spec PyProof.Rows L2 Sw
def kData : Key → PyData
  | .inl i => .int i
  | .inr z => .str z
/-- a kind of tuples of ints and texts -/
structure TKn (α : Type) [DecidableEq α] [PySem.W.DatumOrd α] where
  ks : α → List Key
  toD : ∀ a : α, PySem.W.Datum.toD a = .tuple ((ks a).map kData)
  ne : ∀ a : α, ∃ k r, ks a = k :: r
  inj : ∀ a b : α, ks a = ks b → a = b
  dep : ∀ a : α, (PySem.W.Datum.toD a).depth ≤ 2
theorem lt_neg {α : Type} [DecidableEq α] [PySem.W.DatumOrd α] (a b c : α) (h : PySem.W.DatumOrd.lt a c = true) : PySem.W.DatumOrd.lt a b = true ∨ PySem.W.DatumOrd.lt b c = true := by
  rw [← PySem.W.DatumOrd.lt_eq] at h ⊢
  rw [← PySem.W.DatumOrd.lt_eq]
  exact lex_negTrans (O := itemOrd) _ _ _ h
theorem lt_self {α : Type} [DecidableEq α] [PySem.W.DatumOrd α] (a : α) : PySem.W.DatumOrd.lt a a = false := by
  rw [← PySem.W.DatumOrd.lt_eq]; exact PySem.W.dataLt_self _
theorem lt_asym {α : Type} [DecidableEq α] [PySem.W.DatumOrd α] (a b : α) (h : PySem.W.DatumOrd.lt a b = true) : PySem.W.DatumOrd.lt b a = false := by
  cases e : PySem.W.DatumOrd.lt b a with
  | false => rfl
  | true =>
    rw [← PySem.W.DatumOrd.lt_eq] at h e
    have := lex_trans (O := itemOrd) _ _ _ h e
    have z : PySem.W.dataLt (PySem.W.Datum.toD a) (PySem.W.Datum.toD a) = true := this
    rw [PySem.W.dataLt_self] at z; cases z
theorem perm_of_map {α β : Type} (f : α → β) : ∀ {vs : List β} {l : List α}, vs.Perm (l.map f) → ∃ m : List α, m.Perm l ∧ vs = m.map f
  | [], l, h => by
    have e : l.map f = [] := h.symm.eq_nil
    exact ⟨[], by rw [List.map_eq_nil_iff.mp e], rfl⟩
  | v :: r, l, h => by
    obtain ⟨x, hx, rfl⟩ := List.mem_map.mp (h.mem_iff.mp (List.mem_cons_self ..))
    obtain ⟨l1, l2, rfl⟩ := List.append_of_mem hx
    have p : (l1 ++ x :: l2).Perm (x :: (l1 ++ l2)) := List.perm_middle
    obtain ⟨m, hm, rfl⟩ := perm_of_map f (vs := r) (l := l1 ++ l2) (List.Perm.cons_inv (h.trans (p.map f)))
    exact ⟨x :: m, (hm.cons x).trans p.symm, rfl⟩
theorem lift_map {α β : Type} (g : α → β) (rows : List α) : ∀ L : List β, (∀ x ∈ L, ∃ r ∈ rows, g r = x) → ∃ bs : List α, bs.map g = L ∧ ∀ b ∈ bs, b ∈ rows
  | [], _ => ⟨[], rfl, fun b hb => by cases hb⟩
  | x :: L, h => by
    obtain ⟨r, hr, rfl⟩ := h x (List.mem_cons_self ..)
    obtain ⟨bs, e, all⟩ := lift_map g rows L fun y hy => h y (List.mem_cons_of_mem _ hy)
    exact ⟨r :: bs, by rw [List.map_cons, e], fun b hb => (List.mem_cons.mp hb).elim (fun z => z ▸ hr) (all b)⟩
theorem each_is {α β : Type} {R : α → β → Prop} (f : β → α) : ∀ {bs : List β}, (∀ b ∈ bs, R (f b) b) → PySem.W.EachIs R (bs.map f) bs
  | [], _ => .nil
  | b :: bs, h => .cons (h b (List.mem_cons_self ..)) (each_is f fun c hc => h c (List.mem_cons_of_mem _ hc))
theorem each_eq {α β : Type} {f : β → α} : ∀ {out : List α} {bs : List β}, PySem.W.EachIs (fun v b => v = f b) out bs → out = bs.map f
  | _, _, .nil => rfl
  | _, _, .cons h t => by rw [h, each_eq t]; rfl
/-- a tuple of scalars reads off no list -/
theorem scal_reads {h : Heap} : ∀ {vs : List Value} {ks : List Key} {as : List Addr}, ReadsAll h vs (ks.map kData) as → as = []
  | [], [], _, .nil => rfl
  | v :: vs, .inl i :: ks, _, r => by
    cases r with
    | cons h1 h2 =>
      cases h1
      rw [scal_reads h2]; rfl
  | v :: vs, .inr z :: ks, _, r => by
    cases r with
    | cons h1 h2 =>
      cases h1
      rw [scal_reads h2]; rfl
theorem tup_reads {h : Heap} {v : Value} {ks : List Key} {as : List Addr} (r : Reads h v (.tuple (ks.map kData)) as) : as = [] := by
  cases r with
  | tuple _ _ _ h4 => exact scal_reads h4
theorem keys_read {h : Heap} {P : Program} {w : World} : ∀ {ks : List Key} {vs : List Value}, ItemsAre (mixKind P w) ks vs → ReadsAll h vs (ks.map kData) []
  | _, _, .nil => .nil
  | k :: ks, v :: vs, .cons h1 h2 => by
    have t := keys_read (h := h) h2
    rcases keyIs_shape (show keyIs k v = true from h1) with ⟨i, tk, rfl, rfl⟩ | ⟨z, tk, rfl, rfl⟩
    · exact (ReadsAll.cons (as := []) (bs := []) (.int i tk) t : ReadsAll h _ _ ([] ++ []))
    · exact (ReadsAll.cons (as := []) (bs := []) (.str z tk) t : ReadsAll h _ _ ([] ++ []))
theorem isk_reads {h : Heap} {P : Program} {w : World} {k : List Key} {b : Addr} (x : IsK P w h k b) : Reads h (.ref b) (.tuple (k.map kData)) [] := by
  obtain ⟨o, its, n, g, c, d, i⟩ := x
  exact .tuple g c d (keys_read i)
section
variable {P : Program} {w : World} {A : Around} {E : Value → Shared → Prop} {s : Shared} {a : Addr} {L : List Row} {es : Array (Int × Value)} {ep : Nat} {t : SetTable}
theorem sorted_tup {α : Type} [DecidableEq α] [PySem.W.DatumOrd α] (κ : TKn α) (S : SetQ P w s.heap a L es ep t) (hh : A.handled = none) (hu : A.units + 16 < cLine) {rows : List (Addr × α)} (sub : ∀ p ∈ L, ∃ r ∈ rows, (r.1, κ.ks r.2) = p) {Q : Value → Shared → Prop}
    (q : ∀ (s2 : Shared) (p : Addr) (c : Nat) (bs : List (Addr × α)), (∀ b o, s.heap.get? b = some o → s2.heap.get? b = some o) → s.heap.objs.size ≤ p → s2.gens = s.gens → s2.os = s.os → s2.heap.get? p = some (seqObj "list" (bs.map fun r => Value.ref r.1).toArray c) →
      (bs.map fun r => (r.1, κ.ks r.2)).Perm L → (∀ b ∈ bs, b ∈ rows) → bs.Pairwise (fun x y => PySem.W.DatumOrd.lt y.2 x.2 = false) → bs.length ≤ sizeLine → Q (.ref p) s2) : wpAny (model P w) A (call (.builtin "sorted") [.ref a]) Q E s := by
  obtain ⟨o, g, ex, d⟩ := S.ob
  have el := rows_len S.rows
  have few := S.few
  refine Calls.call_function_entry kind_sorted plain_sorted entry_sorted (args_sorted1 _) ?_
  unfold Builtin.«sorted»
  refine wpAny_bind (m := checkCount "sorted" 1 1 _) (wpAny_pure ?_)
  refine wpAny_bind (collect_set (A := A.in1) hh ⟨o, g, ex.1, d⟩ S.fits (by show es.size < 4096; omega) S.tab.ris S.led fun s1 vs k1 z1 g1 o1 p1 => ?_)
  obtain ⟨bs0, e0, in0⟩ := lift_map (fun r : Addr × α => (r.1, κ.ks r.2)) rows L sub
  have e1 : es.toList.map (·.2) = bs0.map fun r => Value.ref r.1 := by
    rw [S.rows, ← e0, List.map_map, List.map_map]; rfl
  rw [e1] at p1
  obtain ⟨bs, pb, rfl⟩ := perm_of_map _ p1
  have lb : bs.length = L.length := by rw [pb.length_eq, ← e0, List.length_map]
  have lz : (bs.map fun r => Value.ref r.1).length ≤ sizeLine := by rw [List.length_map, lb, sizeLine_eq]; omega
  refine wpAny_bind (wpAny_newList ?_ lz)
  have at1 : (s1.heap.push (seqObj "list" (bs.map fun r => Value.ref r.1).toArray 0)).get? s1.heap.objs.size = some (seqObj "list" (bs.map fun r => Value.ref r.1).toArray 0) := Heap.get?_push_size _ rfl
  have isk : ∀ b ∈ bs, IsK P w s.heap (κ.ks b.2) b.1 := fun b hb => by
    have m : (b.1, κ.ks b.2) ∈ L := by rw [← e0]; exact List.mem_map.mpr ⟨b, pb.mem_iff.mp hb, rfl⟩
    exact S.tup _ m
  refine wpAny_bind (wpAny_holding (PySem.W.list_sort_data (s := { s1 with heap := s1.heap.push (seqObj "list" (bs.map fun r => Value.ref r.1).toArray 0) }) (enc := fun r : Addr × α => PySem.W.Datum.toD r.2) (R := fun v r => v = Value.ref r.1) at1 (each_is (fun r : Addr × α => Value.ref r.1) fun b hb => rfl) (each_is (fun r : Addr × α => Value.ref r.1) fun b hb => ?_)
    (PySem.W.AllAlike.of fun b c => PySem.W.DatumOrd.alike b.2 c.2) (PySem.W.Sortable.tuples fun b => ?_) (by rw [lb, sizeLine_eq]; omega) (fun b hb => ?_) fun out lo eo => ?_))
  · refine ⟨[], ?_, by simp⟩
    rw [κ.toD]
    exact PyProof.Rows.Reads.keeps (fun c o e => Heap.get?_push_of_some _ (k1 c o e)) (isk_reads (isk b hb))
  · obtain ⟨k, r, ek⟩ := κ.ne b.2
    exact ⟨kData k, r.map kData, by show PySem.W.Datum.toD b.2 = _; rw [κ.toD, ek]; rfl⟩
  · have := κ.dep b.2
    show A.in1.units + 1 + (PySem.W.Datum.toD b.2).depth < cLine
    show A.units + 1 + 1 + (PySem.W.Datum.toD b.2).depth < cLine
    omega
  · rw [each_eq eo]
    obtain ⟨c, hc⟩ := sortedHeap_at (vs := bs.map fun r => Value.ref r.1) (out := ((bs.mergeSort (PySem.W.dataLe false fun r : Addr × α => PySem.W.Datum.toD r.2)).map fun r => Value.ref r.1).toArray) at1
    have pm : (bs.mergeSort (PySem.W.dataLe false fun r : Addr × α => PySem.W.Datum.toD r.2)).Perm bs := List.mergeSort_perm ..
    have pw : (bs.mergeSort (PySem.W.dataLe false fun r : Addr × α => PySem.W.Datum.toD r.2)).Pairwise (fun x y => PySem.W.dataLe false (fun r : Addr × α => PySem.W.Datum.toD r.2) x y = true) := List.pairwise_mergeSort (fun x y z h1 h2 => ?_) (fun x y => ?_) _
    · refine wpAny_pure ⟨_, rfl, q _ s1.heap.objs.size c _ (fun b u e => ?_) z1 g1 o1 hc ?_ (fun b hb => in0 b (pb.mem_iff.mp (pm.mem_iff.mp hb))) (pw.imp fun {x y} h => ?_) (by rw [pm.length_eq]; simpa using lz)⟩
      · have e1 := k1 b u e
        have lt := Heap.lt_size e1
        show (sortedHeap (s1.heap.push (seqObj "list" (bs.map fun r => Value.ref r.1).toArray 0)) s1.heap.objs.size _ _).get? b = some u
        rw [sortedHeap_old (Nat.ne_of_lt lt) (by rw [Heap.size_push]; exact Nat.lt_succ_of_lt lt)]
        exact Heap.get?_push_of_some _ e1
      · have := (pm.trans pb).map fun r : Addr × α => (r.1, κ.ks r.2)
        rw [e0] at this
        exact this
      · have h2 : (!PySem.W.dataLt (PySem.W.Datum.toD y.2) (PySem.W.Datum.toD x.2)) = true := h
        rw [PySem.W.DatumOrd.lt_eq] at h2
        simpa using h2
    · have a1 : (!PySem.W.dataLt (PySem.W.Datum.toD y.2) (PySem.W.Datum.toD x.2)) = true := h1
      have a2 : (!PySem.W.dataLt (PySem.W.Datum.toD z.2) (PySem.W.Datum.toD y.2)) = true := h2
      show (!PySem.W.dataLt (PySem.W.Datum.toD z.2) (PySem.W.Datum.toD x.2)) = true
      rw [PySem.W.DatumOrd.lt_eq] at a1 a2 ⊢
      cases e : PySem.W.DatumOrd.lt z.2 x.2 with
      | false => rfl
      | true =>
        rcases lt_neg z.2 y.2 x.2 e with h | h
        · rw [h] at a2; cases a2
        · rw [h] at a1; cases a1
    · show ((!PySem.W.dataLt (PySem.W.Datum.toD y.2) (PySem.W.Datum.toD x.2)) || (!PySem.W.dataLt (PySem.W.Datum.toD x.2) (PySem.W.Datum.toD y.2))) = true
      rw [PySem.W.DatumOrd.lt_eq, PySem.W.DatumOrd.lt_eq]
      cases e : PySem.W.DatumOrd.lt y.2 x.2 with
      | false => rfl
      | true => rw [lt_asym _ _ e]; rfl
end
end Ss
namespace Ss
open PySem PySem.Spec PyProof.Rows L2 Sw
section
variable {X : Cx} {pins : List (Addr × Obj)} {σ : L2.St} {H : Hp} {s : Shared}
theorem isk_inv {k : List Key} {b : Addr} (I : Inv X pins σ H s) (h : SqT X.K H b (k.map kV)) : IsK X.prog X.w s.heap k b := by
  obtain ⟨its, r, pl, _⟩ := I.tuple h
  obtain ⟨o, ho, hc, n, hd⟩ := pl
  exact ⟨o, its.toArray, n, ho, hc, hd, by simpa using items_are r⟩
abbrev rowK {α : Type} [DecidableEq α] [PySem.W.DatumOrd α] (κ : TKn α) (r : Addr × α) : Row := (r.1, κ.ks r.2)
theorem vals_rows {α : Type} : ∀ {rows : List (Addr × α)} {us : List Value}, Vals (rows.map fun p => V.ref p.1) us → us = rows.map fun p => Value.ref p.1
  | [], _, .nil => rfl
  | p :: rows, _, .cons h t => by
    cases h
    rw [vals_rows t]; rfl
theorem call_setT {α : Type} [DecidableEq α] [PySem.W.DatumOrd α] (κ : TKn α) (I : Inv X pins σ H s) (hc : X.calm = true) (hu : X.A.units + 64 < cLine) {l : Addr} {rows : List (Addr × α)} (hq : SqL X.K H l (rows.map fun p => V.ref p.1) ∨ SqT X.K H l (rows.map fun p => V.ref p.1))
    (ht : ∀ p ∈ rows, SqT X.K H p.1 ((κ.ks p.2).map kV)) (few : rows.length < 63) {E : Value → Shared → Prop} {Q : Value → Shared → Prop}
    (q : ∀ (h' : Heap) (tk : Nat) (L : List Row) (es : Array (Int × Value)) (ep : Nat) (t : SetTable), SetQ X.prog X.w h' s.heap.objs.size L es ep t → CovT (rows.map (rowK κ)) rows.length L → (∀ b o, b < s.heap.objs.size → s.heap.get? b = some o → h'.get? b = some o) → Q (.ref s.heap.objs.size) { s with heap := h', toks := tk }) :
    wpAny (model X.prog X.w) X.A (call (.type "set") [.ref l]) Q E s := by
  have tups : ∀ p ∈ rows.map (rowK κ), IsK X.prog X.w s.heap p.2 p.1 := fun p hp => by
    obtain ⟨r, hr, rfl⟩ := List.mem_map.mp hp
    exact isk_inv I (ht r hr)
  have val : ∀ (its : List Value), its = rows.map (fun p => Value.ref p.1) → ∀ (i : Nat) (v : Value), its.toArray[i]? = some v → ∃ p, (rows.map (rowK κ))[i]? = some p ∧ v = .ref p.1 := fun its e i v hv => by
    subst e
    simp only [List.getElem?_toArray, List.getElem?_map, Option.map_eq_some_iff] at hv
    obtain ⟨r, hr, rfl⟩ := hv
    exact ⟨rowK κ r, by rw [List.getElem?_map, hr]; rfl, rfl⟩
  have units : (X.A.in1.in1).in1.units < cLine := by show X.A.units + 1 + 1 + 1 < cLine; omega
  rcases hq with hq | hq
  · obtain ⟨its, rv, pl, hz⟩ := I.list hq
    have e := vals_rows rv
    have ln : its.toArray.size = rows.length := by rw [List.size_toArray, e, List.length_map]
    refine set_of_list (I.ok.hd hc) pl.isList (fills_tup (ks := rows.map (rowK κ)) (by rw [List.length_map, ln]) (val its e) tups (by rw [ln]; exact few) (fun p hp z => ?_) units) fun h' tk ⟨L, es, ep, t, S, cv⟩ kk => q h' tk L es ep t S (by rw [← ln]; exact cv) kk
    obtain ⟨o, _, n, g, c, _⟩ := tups p hp
    obtain ⟨o2, g2, c2, _⟩ := pl.isList
    rw [z, g2] at g
    have e2 := Option.some.inj g
    rw [← e2] at c
    exact absurd (Value.type.inj (c2.symm.trans c)) (by decide)
  · obtain ⟨its, rv, pl, hz⟩ := I.tuple hq
    have e := vals_rows rv
    have ln : its.toArray.size = rows.length := by rw [List.size_toArray, e, List.length_map]
    refine set_of_tuple (I.ok.hd hc) (show s.heap.IsTuple l its.toArray from pl) (fills_tup (ks := rows.map (rowK κ)) (by rw [List.length_map, ln]) (val its e) tups (by rw [ln]; exact few) (fun p hp z => ?_) units) fun h' tk ⟨L, es, ep, t, S, cv⟩ kk => q h' tk L es ep t S (by rw [← ln]; exact cv) kk
    obtain ⟨o, jts, n, g, c, d, it⟩ := tups p hp
    obtain ⟨o2, g2, c2, n2, d2⟩ := (show s.heap.IsTuple l its.toArray from pl)
    rw [z, g2] at g
    cases g
    rw [d2] at d
    cases d
    obtain ⟨r, hr, rfl⟩ := List.mem_map.mp hp
    obtain ⟨k, kr, ek⟩ := κ.ne r.2
    cases rows with
    | nil => cases hr
    | cons r0 rs =>
      rw [show (rowK κ r).2 = k :: kr from ek, e] at it
      cases it with
      | cons h1 _ => rcases keyIs_shape (show keyIs k _ = true from h1) with ⟨i, t, _, z⟩ | ⟨i, t, _, z⟩ <;> cases z
/-- what the members are -/
structure Mems {α : Type} (rows bs : List (Addr × α)) : Prop where
  sub : ∀ b ∈ bs, b ∈ rows
  nd : (bs.map (·.2)).Nodup
  all : ∀ c, c ∈ rows.map (·.2) → c ∈ bs.map (·.2)
theorem mems_of {α : Type} [DecidableEq α] [PySem.W.DatumOrd α] (κ : TKn α) {rows bs : List (Addr × α)} {L : List Row} (e : (bs.map (rowK κ)).Perm L) (sub : ∀ b ∈ bs, b ∈ rows) (nd : (L.map (·.2)).Nodup) (cv : CovT (rows.map (rowK κ)) rows.length L) : Mems rows bs := by
  have em : (bs.map fun b => κ.ks b.2).Perm (L.map (·.2)) := by
    have z := e.map (·.2)
    rwa [List.map_map] at z
  refine ⟨sub, ?_, fun c hc => ?_⟩
  · have n2 : ((bs.map (·.2)).map κ.ks).Nodup := by rw [List.map_map]; exact em.nodup_iff.mpr nd
    exact nodup_of_map _ n2
  · obtain ⟨r, hr, rfl⟩ := List.mem_map.mp hc
    have m : rowK κ r ∈ (rows.map (rowK κ)).take rows.length := by
      rw [List.take_of_length_le (by rw [List.length_map]; exact Nat.le_refl _)]
      exact List.mem_map_of_mem hr
    have z := em.mem_iff.mpr (cv.all _ m)
    obtain ⟨b, hb, eb⟩ := List.mem_map.mp z
    exact List.mem_map.mpr ⟨b, hb, κ.inj _ _ eb⟩
theorem cov_sub {α : Type} [DecidableEq α] [PySem.W.DatumOrd α] (κ : TKn α) {rows : List (Addr × α)} {L : List Row} (cv : CovT (rows.map (rowK κ)) rows.length L) : ∀ p ∈ L, ∃ r ∈ rows, rowK κ r = p := fun p hp => by
  obtain ⟨r, hr, e⟩ := List.mem_map.mp (List.mem_of_mem_take (cv.sub p hp))
  exact ⟨r, hr, e⟩
/-- len(set(x)) -/
def tLenT {α : Type} [DecidableEq α] [PySem.W.DatumOrd α] (K : PySem.W.Frag) (κ : TKn α) (ta : TE) : TE := fun σ H Q => ta σ H fun x H1 => ∃ (l : Addr) (rows : List (Addr × α)), x = .ref l ∧ (SqL K H1 l (rows.map fun p => V.ref p.1) ∨ SqT K H1 l (rows.map fun p => V.ref p.1)) ∧
  (∀ p ∈ rows, SqT K H1 p.1 ((κ.ks p.2).map kV)) ∧ rows.length < 63 ∧ ∀ bs, Mems rows bs → Q (.int (bs.length : Nat)) H1
theorem pe_lenT {α : Type} [DecidableEq α] [PySem.W.DatumOrd α] (κ : TKn α) {a : Expr} {ta : TE} {p p2 q pos : Pos} (hc : X.calm = true) (hu : X.A.units + 64 < cLine) (hg : Gl X "len") (hm : X.mg "len" = none) (hg2 : Gl X "set") (hm2 : X.mg "set" = none) (ha : PE X a ta)
    (na : starEach [a] X.env = (false, eval a X.env) :: starEach [] X.env := by rfl) : PE X (.Call (.Name "len" p) [.Call (.Name "set" p2) [a] [] q] [] pos) (tLenT X.K κ ta) := by
  refine ⟨fun pins s σ H Q I h => Call_ (ld_blt I hg hm boot_len (PyProof.Rows.callWith_builtin1 (PyProof.Rows.args_cons ?_ rfl) rfl rfl))⟩
  refine Call_ (ld_blt I hg2 hm2 boot_set (PyProof.Rows.callWith_type1 (PyProof.Rows.args_cons (thn (ha.run pins s σ H _ I h) fun v s1 ⟨x, H1, I1, r1, q1⟩ => PyProof.Rows.args_nil ?_) na) na rfl))
  obtain ⟨l, rows, rfl, hq, ht, few, qq⟩ := q1
  cases r1
  refine call_setT κ I1 hc hu hq ht few fun h' tk L es ep t S cv kk => PyProof.Rows.args_nil ?_
  obtain ⟨o, g, ex, d⟩ := S.ob
  have el := rows_len S.rows
  have fw := S.few
  obtain ⟨bs, e0, in0⟩ := lift_map (rowK κ) rows L (cov_sub κ cv)
  have lb : bs.length = es.size := by rw [el, ← e0, List.length_map]
  have I2 : Inv X pins σ H1 { s1 with heap := h', toks := tk } := I1.kept fun b o e => kk b o (Heap.lt_size e) e
  exact call_len_set g ex d (SetQ.fits (s := { s1 with heap := h', toks := tk }) S) (by omega) ⟨.int (bs.length : Nat), H1, I2.tok _, ⟨_, by rw [lb]⟩, qq bs (mems_of κ (.of_eq e0) in0 S.nd cv)⟩
/-- sorted(set(x)) -/
def tSortT {α : Type} [DecidableEq α] [PySem.W.DatumOrd α] (K : PySem.W.Frag) (κ : TKn α) (ta : TE) : TE := fun σ H Q => ta σ H fun x H1 => ∃ (l : Addr) (rows : List (Addr × α)), x = .ref l ∧ (SqL K H1 l (rows.map fun p => V.ref p.1) ∨ SqT K H1 l (rows.map fun p => V.ref p.1)) ∧
  (∀ p ∈ rows, SqT K H1 p.1 ((κ.ks p.2).map kV)) ∧ rows.length < 63 ∧ ∀ bs p, Mems rows bs → bs.Pairwise (fun x y => PySem.W.DatumOrd.lt y.2 x.2 = false) → H1 p = none → Q (.ref p) (upd H1 p (.lst (bs.map fun r => V.ref r.1)))
theorem pe_sortT {α : Type} [DecidableEq α] [PySem.W.DatumOrd α] (κ : TKn α) {a : Expr} {ta : TE} {p p2 q pos : Pos} (hc : X.calm = true) (hu : X.A.units + 64 < cLine) (hg : Gl X "sorted") (hm : X.mg "sorted" = none) (hg2 : Gl X "set") (hm2 : X.mg "set" = none) (ha : PE X a ta)
    (na : starEach [a] X.env = (false, eval a X.env) :: starEach [] X.env := by rfl) : PE X (.Call (.Name "sorted" p) [.Call (.Name "set" p2) [a] [] q] [] pos) (tSortT X.K κ ta) := by
  refine ⟨fun pins s σ H Q I h => Call_ (ld_blt I hg hm boot_sorted (PyProof.Rows.callWith_builtin1 (PyProof.Rows.args_cons ?_ rfl) rfl rfl))⟩
  refine Call_ (ld_blt I hg2 hm2 boot_set (PyProof.Rows.callWith_type1 (PyProof.Rows.args_cons (thn (ha.run pins s σ H _ I h) fun v s1 ⟨x, H1, I1, r1, q1⟩ => PyProof.Rows.args_nil ?_) na) na rfl))
  obtain ⟨l, rows, rfl, hq, ht, few, qq⟩ := q1
  cases r1
  refine call_setT κ I1 hc hu hq ht few fun h' tk L es ep t S cv kk => PyProof.Rows.args_nil ?_
  have I2 : Inv X pins σ H1 { s1 with heap := h', toks := tk } := I1.kept fun b o e => kk b o (Heap.lt_size e) e
  refine sorted_tup (s := { s1 with heap := h', toks := tk }) κ S (I1.ok.hd hc) (by omega) (cov_sub κ cv) fun s2 p c bs k hp g o at_ pm sub pw lz => ?_
  have hn : H1 p = none := I2.hok.fresh hp
  have vb : ∀ l : List (Addr × α), Vals (l.map fun r => V.ref r.1) (l.map fun r => Value.ref r.1) := fun l => by
    induction l with
    | nil => exact .nil
    | cons r l ih => exact .cons rfl ih
  have J : Inv X pins σ (upd H1 p (.lst (bs.map fun r => V.ref r.1))) { ({ s1 with heap := h', toks := tk } : Shared) with heap := s2.heap, gens := s2.gens, drawn := s2.drawn, toks := s2.toks } :=
    I2.call (ch := []) (Un.laid k hp hn) (I2.hok.laid k hp ⟨by rw [List.length_map]; exact lz, _, c, vb bs, at_⟩) (by rw [g]; exact I2.bare) (fun _ z => nomatch z)
  have e : s2 = { ({ s1 with heap := h', toks := tk } : Shared) with heap := s2.heap, gens := s2.gens, drawn := s2.drawn, toks := s2.toks } := by
    obtain ⟨_, _, _, _, _⟩ := s2
    obtain ⟨_, _, _, _, _⟩ := s1
    cases o
    rfl
  rw [e]
  exact ⟨.ref p, _, J, rfl, qq bs p (mems_of κ pm sub S.nd cv) pw hn⟩
end
end Ss
namespace Ss
open PySem PySem.Spec PyProof.Rows L2 Sw RT
/-! ### reversed(text) -/
theorem str_norev : typeLookup (.type "str") "__reversed__" = pure none := by rw [typeLookup_type, builtinLookup_eq_fast]; kernel_rfl
theorem str_getit : typeLookup (.type "str") "__getitem__" = pure (some (.builtin "str.__getitem__")) := by rw [typeLookup_type, builtinLookup_eq_fast]; kernel_rfl
def rsObj (z : Str) (tk : Tok) (i : Int) : Obj := { cls := .type "reversed", data := .fields #[.str z tk, rawInt i] }
def IsRs (h : Heap) (a : Addr) (z : Str) (tk : Tok) (i : Int) : Prop := ∃ o, h.get? a = some o ∧ o.cls = .type "reversed" ∧ o.data = .fields #[.str z tk, rawInt i]
theorem IsRs.keep {h h' : Heap} {a : Addr} {z : Str} {tk : Tok} {i : Int} (x : IsRs h a z tk i) (e : ∀ o, h.get? a = some o → h'.get? a = some o) : IsRs h' a z tk i := let ⟨o, g, r⟩ := x; ⟨o, e _ g, r⟩
section
variable {P : Program} {w : World} {A : Around} {E : Value → Shared → Prop} {s : Shared} {z : Str} {tk : Tok}
theorem IsRs.ty {a : Addr} {i : Int} (x : IsRs s.heap a z tk i) : s.TypeIs (.ref a) "reversed" := let ⟨o, g, c, _⟩ := x; ⟨o, g, c⟩
theorem rev_made {Q : Value → Shared → Prop} (hz : z.length < 2 ^ 62) (q : ∀ t, Q (.ref s.heap.objs.size) { s with heap := s.heap.push (rsObj z tk ((z.length : Int) - 1)), toks := t }) :
    codeAny (model P w) A (.call (.builtin "reversed.__new__") ⟨[.type "reversed", .str z tk], []⟩) (wants Q E) s := by
  have ty : s.TypeIs (.str z tk) "str" := typeIs_str s z tk
  refine codeAny_of_tree (show wpAny _ A.in1 (checkBuiltinCall "reversed.__new__" ⟨[.type "reversed", .str z tk], []⟩ >>= fun _ => again (.builtin "reversed.__new__" ⟨[.type "reversed", .str z tk], []⟩)) _ _ s from ?_)
  refine wpAny_bind (wpAny_of_eq (F.newCall_reversed_1 _) (wpAny_pure ⟨plainId_quiet F.plain_reversed_new _, codeAny_builtin F.entry_reversed_new ?_⟩))
  rw [Around.under_plainId F.plain_reversed_new _]
  unfold Builtin.«reversed.__new__»
  refine wpAny_bind (wpAny_of_eq (newClass_reversed _) ?_)
  try dsimp only
  refine wpAny_bind (wpAny_of_eq (a := ()) (by first | rfl | kernel_rfl) ?_)
  try dsimp only
  refine wpAny_bind (wpAny_of_eq (a := ()) (by first | rfl | kernel_rfl) ?_)
  try dsimp only
  refine wpAny_bind (wpAny_specialOf ty str_norev ?_)
  try dsimp only
  refine wpAny_bind ?_
  wp_delta
  refine wpAny_bind (wpAny_isInstance (T := "str") (U := "dict") (b := false) ty PySem.F.sub_str_dict ?_)
  try dsimp only
  try rw [if_neg Bool.false_ne_true]
  try dsimp only
  refine wpAny_bind (wpAny_specialOf ty str_getit ?_)
  try dsimp only
  try rw [if_pos (by decide +kernel)]
  refine wpAny_pure ?_
  try dsimp only
  try rw [if_neg (by decide)]
  try dsimp only
  refine wpAny_bind (len_str (by omega) ?_)
  refine wpAny_bind (wpAny_of_eq (a := some ((z.length : Nat) : Int)) rfl ?_)
  try dsimp only
  refine wpAny_bind ?_
  show wpAny _ _ (newObj (.type "reversed") (.fields #[.str z tk, rawInt ((z.length : Int) - 1)])) _ _ _
  refine wpAny_newObj_type ?_
  exact wpAny_pure (q _)
theorem rev_call {Q : Value → Shared → Prop} (hz : z.length < 2 ^ 62) (q : ∀ t, Q (.ref s.heap.objs.size) { s with heap := s.heap.push (rsObj z tk ((z.length : Int) - 1)), toks := t }) : wpAny (model P w) A (call (.type "reversed") [.str z tk]) Q E s := by
  refine callType_codes (Q₁ := fun ob s₁ => s₁.TypeIs ob "reversed" ∧ Q ob s₁) called_rt (F.typeCall_reversed_1 _) F.entry_object_init (rev_made (A := A.in1) hz fun t => ⟨⟨_, Heap.get?_push_size _ rfl, rfl⟩, q t⟩) fun ob s₁ h₁ => ?_
  exact ⟨h₁.1, F.args_object_init_2 ob _, object_init_meets called_rt.init.lookup called_rt.made (by decide) P w A.in1 _ s₁ ⟨h₁.1, rfl, h₁.2⟩⟩
theorem rs_iter {a : Addr} {i : Int} {Q : Value → Shared → Prop} (x : IsRs s.heap a z tk i) (q : Q (.ref a) s) : wpAny (model P w) A (pyIter (.ref a)) Q E s := by
  refine wpAny_pyIter_slot x.ty slot_rt_iter (wpAny_call_entry slot_rt_iter x.ty entry_rt_iter (show wpAny _ _ (ret (.ref a)) _ _ s from ?_) (args_rt_iter _))
  exact wpAny_pure ⟨_, rfl, "reversed", _, x.ty, slot_rt_next.lookup, q⟩
theorem rs_next {a : Addr} {i c : Nat} {Q : Option Value → Shared → Prop} (x : IsRs s.heap a z tk (i : Int)) (hc : z.cps.toList[i]? = some c) (hz : z.length < 2 ^ 62)
    (q : ∀ h' t u, IsRs h' a z tk ((i : Int) - 1) → Heap.SameBut a s.heap h' → Q (some (.str ⟨#[c]⟩ u)) { s with heap := h', toks := t }) : wpAny (model P w) A (pyNext (.ref a)) Q E s := by
  obtain ⟨o, g, cl, d⟩ := id x
  have hi : i < z.length := by
    have := (List.getElem?_eq_some_iff.mp hc).1
    simpa [Str.length] using this
  have ty : s.TypeIs (.str z tk) "str" := typeIs_str s z tk
  unfold pyNext
  refine wpAny_bind (wpAny_attempt (wpAny_callSpecial?_slot (name := Str.ofString "__next__") x.ty slot_rt_next (wpAny_call_entry slot_rt_next x.ty entry_rt_next ?_ (args_rt_next _))))
  unfold Builtin.«reversed.__next__»
  refine wpAny_bind (wpAny_of_eq (a := (Value.ref a, [])) rfl ?_)
  try dsimp only
  refine wpAny_bind (wpAny_field g d (x := .str z tk) rfl ?_)
  try dsimp only
  refine wpAny_bind (wpAny_field g d (x := rawInt (i : Int)) rfl ?_)
  refine (show wpAny _ _ (if (i : Int) < 0 then _ else _) _ _ s from ?_)
  rw [if_neg (by omega)]
  try dsimp only
  refine wpAny_bind (wpAny_specialOf ty str_getit ?_)
  try dsimp only
  try rw [if_neg (by decide)]
  try dsimp only
  refine wpAny_bind (wpAny_mkInt ?_)
  refine wpAny_bind (wpAny_attempt ?_)
  have e1 : decide ((i : Int) < -(2 ^ 63 : Int)) = false := decide_eq_false (by omega)
  have e2 : decide ((i : Int) ≥ 2 ^ 63) = false := decide_eq_false (by omega)
  refine getItem_str (s := { s with toks := s.toks + 1 }) (by rw [e1, e2]; rfl) (by rw [seqIndex_of (by omega) (by omega)]; simpa using hc) ?_
  try dsimp only
  refine wpAny_bind (wpAny_field (s := { s with toks := s.toks + 1 + 1 }) g d (x := rawInt (i : Int)) rfl ?_)
  try dsimp only
  refine wpAny_bind (wpAny_setField (s := { s with toks := s.toks + 1 + 1 }) g d (by simp) ?_)
  first
  | refine wpAny_pure ⟨_, rfl, wpAny_pure (q _ _ _ ?_ (Heap.SameBut.update ..))⟩
  | refine wpAny_bind (wpAny_pure (wpAny_pure ⟨_, rfl, wpAny_pure (q _ _ _ ?_ (Heap.SameBut.update ..))⟩))
  exact ⟨_, Heap.get?_update_self _ g (Obj.isFreed_of_fields (Obj.data_mapFields d _)), (Obj.cls_mapFields ..).trans cl, by
    rw [Obj.data_mapFields d]; simp⟩
theorem rs_end {a : Addr} {Q : Option Value → Shared → Prop} (hh : A.handled = none) (x : IsRs s.heap a z tk (-1)) (q : ∀ h', Heap.ExtBut a s.heap h' → Q none { s with heap := h' }) : wpAny (model P w) A (pyNext (.ref a)) Q E s := by
  obtain ⟨o, g, cl, d⟩ := id x
  unfold pyNext
  refine wpAny_bind (wpAny_attempt (wpAny_callSpecial?_slot (name := Str.ofString "__next__") x.ty slot_rt_next (wpAny_call_entry slot_rt_next x.ty entry_rt_next ?_ (args_rt_next _))))
  unfold Builtin.«reversed.__next__»
  refine wpAny_bind (wpAny_of_eq (a := (Value.ref a, [])) rfl ?_)
  try dsimp only
  refine wpAny_bind (wpAny_field g d (x := .str z tk) rfl ?_)
  try dsimp only
  refine wpAny_bind (wpAny_field g d (x := rawInt (-1)) rfl ?_)
  refine (show wpAny _ _ (if (-1 : Int) < 0 then _ else _) _ _ s from ?_)
  rw [if_pos (by decide)]
  try dsimp only
  refine wpAny_bind (wpAny_rule ?_)
  refine wpAny_bind ?_
  wp_delta
  refine wpAny_bind (wpAny_setField g d (by simp) ?_)
  have g2 := Heap.get?_update_self (Obj.mapFields (·.setIfInBounds 1 (rawInt (-1)))) g (Obj.isFreed_of_fields (Obj.data_mapFields d _))
  refine wpAny_setField (s := { s with heap := s.heap.update a (Obj.mapFields (·.setIfInBounds 1 (rawInt (-1)))) }) g2 (Obj.data_mapFields d _) (by simp) ?_
  try dsimp only
  first
  | show wpAny _ _ (newExc (.type "StopIteration") [] >>= _) _ _ _
  | (refine wpAny_bind ?_; show wpAny _ _ (newExc (.type "StopIteration") [] >>= _) _ _ _)
  | (refine wpAny_bind ?_; wp_delta; show wpAny _ _ (newExc (.type "StopIteration") [] >>= _) _ _ _)
  refine wpAny_bind ?_
  simp only [newExc, newTuple]
  refine wpAny_bind (wpAny_newObj_type ?_ (by size_fits))
  refine wpAny_bind (m := firstArgMember _ _) (wpAny_of_eq (a := Value.none) (by first | rfl | (simp only [firstArgMember]; rfl)) ?_)
  refine wpAny_newObj_type ?_ (by size_fits)
  simp only [raiseNew]
  refine wpAny_bind (wpAny_handled ?_)
  first | rw [show A.in1.handled = none from hh] | rw [hh]
  refine wpAny_bind (wpAny_pure (wpAny_throw ?_))
  refine wpAny_bind (wpAny_isInstance (T := "StopIteration") (b := true) ⟨_, Heap.get?_push_size _ rfl, rfl⟩ isSubtype_stop ?_)
  refine wpAny_pure (q _ ?_)
  refine ((?_ : Heap.ExtBut a s.heap _).push _).push _
  exact fun b ob hb e => (Heap.get?_update_other _ _ (Ne.symm hb)).trans ((Heap.get?_update_other _ _ (Ne.symm hb)).trans e)
end
/-- the walk -/
def Itr (z : Str) : It := ⟨fun i _ => i < z.length, fun i H x H' => H' = H ∧ ∃ c, z.cps.toList[z.length - 1 - i]? = some c ∧ x = .str ⟨#[c]⟩, fun i _ => z.length ≤ i⟩
theorem turn_rs {P : Program} {w : World} {K : PySem.W.Frag} {tg : Expr} (it : Addr) (z : Str) (tk : Tok) (hz : z.length < 2 ^ 62) : Turn P w K tg (Itr z) [it] it (fun i h => i ≤ z.length ∧ IsRs h it z tk ((z.length : Int) - 1 - (i : Nat))) where
  mem := by simp
  obj := fun i h st b hb => by
    have e : b = it := by simpa using hb
    subst e
    obtain ⟨_, o, e, c, d⟩ := st
    exact ⟨o, e, fun v y => by rw [d] at y; cases y⟩
  keep := fun i h h' st k => ⟨st.1, st.2.keep fun o e => k it (by simp) o e⟩
  item := by
    intro X hP hw hK hc i pins s σ H E I hf st hg
    subst hP hw hK
    have hg : i < z.length := hg
    obtain ⟨f0, f1, f2, f3, f4, f5⟩ := hf it (by simp)
    obtain ⟨_, x⟩ := st
    have e1 : (z.length : Int) - 1 - ((i : Nat) : Int) = ((z.length - 1 - i : Nat) : Int) := by omega
    rw [e1] at x
    have hl : z.cps.toList.length = z.length := by simp [Str.length]
    have hc2 : z.cps.toList[z.length - 1 - i]? = some (z.cps.toList[z.length - 1 - i]'(by omega)) := List.getElem?_eq_getElem _
    refine rs_next x hc2 hz fun h' t u st' sb => ?_
    have e2 : ((z.length - 1 - i : Nat) : Int) - 1 = (z.length : Int) - 1 - ((i + 1 : Nat) : Int) := by omega
    rw [e2] at st'
    have I1 : Inv X pins σ H { s with heap := h', toks := t } := I.turned (t' := t) (fun b o hb e => (sb.2 b hb).trans e) f0 f1 f3 f4 f5
    obtain ⟨o, e, c, d⟩ := id st'
    exact ⟨_, rfl, go_of (s := { s with heap := h', toks := t }) e c d (by decide) ⟨.str ⟨#[_]⟩, H, I1, ⟨u, rfl⟩, ⟨rfl, _, hc2, rfl⟩, ⟨hg, st'⟩, fun b hb => (hf b hb).1⟩⟩
  done := by
    intro X hP hw hK hc i pins s σ H E I hf st hg
    subst hP hw hK
    obtain ⟨f0, f1, f2, f3, f4, f5⟩ := hf it (by simp)
    obtain ⟨hin, x⟩ := st
    have hge : z.length ≤ i := hg
    have e1 : (z.length : Int) - 1 - ((i : Nat) : Int) = -1 := by omega
    rw [e1] at x
    exact rs_end (I.ok.hd hc) x fun h' eb => ⟨rfl, I.turned (t' := s.toks) (fun b o hb e => eb b o hb e) f0 f1 f3 f4 f5⟩
  self := fun A i s Q E st h => rs_iter st.2 h
section
variable {X : Cx} {tg : Expr}
theorem pi_revS {e : Expr} {te : TE} {p pos : Pos} (hg : Gl X "reversed") (hm : X.mg "reversed" = none) (he : PE X e te) (hs : starEach [e] X.env = (false, eval e X.env) :: starEach [] X.env := by rfl) :
    PI X tg (.Call (.Name "reversed" p) [e] [] pos) (fun σ H R => te σ H fun v H1 => ∃ z : Str, v = .str z ∧ z.length < 2 ^ 62 ∧ R (Itr z) H1) := by
  refine ⟨fun pins s σ H R I h => ?_⟩
  refine Call_ (ld_blt I hg hm PyProof.Rows.boot_reversed (PyProof.Rows.callWith_type1 (args_cons (thn (he.run pins s σ H _ I h) fun u s1 ⟨v, H1, I1, r1, z, ev, hz, q⟩ => args_nil ?_) hs) hs rfl))
  subst ev
  obtain ⟨tk, rfl⟩ := r1
  refine rev_call hz fun t => rs_iter (z := z) (tk := tk) (i := (z.length : Int) - 1) ⟨_, Heap.get?_push_size _ rfl, rfl, rfl⟩ ?_
  refine pi_one (tk := t) I1 _ (turn_rs _ z tk hz) ⟨Nat.zero_le _, ?_⟩ q
  refine ⟨_, Heap.get?_push_size _ rfl, rfl, ?_⟩
  show Data.fields #[.str z tk, rawInt ((z.length : Int) - 1)] = Data.fields #[.str z tk, rawInt ((z.length : Int) - 1 - ((0 : Nat) : Int))]
  simp
theorem walk_revS {z : Str} : Walk (Itr z) z.length (fun _ => True) (fun i H x H' => H' = H ∧ ∃ c, z.cps.toList[z.length - 1 - i]? = some c ∧ x = .str ⟨#[c]⟩) := ⟨fun i H hi _ => hi, fun H _ => Nat.le_refl _, fun i H v H' _ _ h => h⟩
end
end Ss
namespace Ss
open PySem PySem.Spec PyProof.Rows L2 Sw
/-! ### d.get(tuple of ints, texts and None) -/
def hNone : Int := 0xFCA86420
theorem pyHash_nil {prog : Program} {w : World} {A : Around} {E : Value → Shared → Prop} {s : Shared} {Q : Int → Shared → Prop} (h : Q hNone { s with toks := s.toks + 1 }) : wpAny (model prog w) A (pyHash .none) Q E s := by
  have ty : s.TypeIs .none "NoneType" := rfl
  unfold pyHash
  refine wpAny_bind ?_
  rw [cRoomFor, if_neg (by rw [show [Value.none].any Value.onHeap = false from rfl]; exact Bool.false_ne_true)]
  refine wpAny_pure (wpAny_bind (wpAny_specialOf ty PySem.F.slot_NoneType_hash.lookup ?_))
  refine (show wpAny _ _ (if (some (Value.builtin "NoneType.__hash__") == some Value.none) = true then _ else _) Q E s from ?_)
  rw [if_neg (by rw [beq_builtin_none]; exact Bool.false_ne_true)]
  refine wpAny_bind (wpAny_specialOf ty PySem.F.slot_NoneType_hash.lookup ?_)
  refine (show wpAny _ _ (callSpecialIfBoundUnlessNone? .none "__hash__" _ >>= _) Q E s from ?_)
  refine wpAny_bind (wpAny_callSpecialIfBoundUnlessNone?_slot ty PySem.F.slot_NoneType_hash (wpAny_call_entry PySem.F.slot_NoneType_hash ty PySem.F.entry_NoneType_hash (show wpAny _ _ (retInt 0xFCA86420) _ _ s from wpAny_bind (wpAny_mkInt (wpAny_pure ⟨_, rfl, ?_⟩))) (PySem.F.args_NoneType_hash_1 _)))
  refine (show wpAny _ _ (if (decide (-(2 : Int) ^ 63 ≤ hNone) && decide (hNone < 2 ^ 63)) = true then _ else _) Q E _ from ?_)
  rw [if_pos (by decide)]
  exact wpAny_pure h
def oIs : Option Key → Value → Bool
  | some k, v => keyIs k v
  | none, .none => true
  | none, _ => false
theorem oIs_shape : ∀ {k : Option Key} {v : Value}, oIs k v = true → (∃ i t, k = some (.inl i) ∧ v = .int i t) ∨ (∃ z t, k = some (.inr z) ∧ v = .str z t) ∨ (k = none ∧ v = .none)
  | some k, v, h => by
    rcases keyIs_shape (show keyIs k v = true from h) with ⟨i, t, rfl, rfl⟩ | ⟨z, t, rfl, rfl⟩
    · exact .inl ⟨i, t, rfl, rfl⟩
    · exact .inr (.inl ⟨z, t, rfl, rfl⟩)
  | none, .none, _ => .inr (.inr ⟨rfl, rfl⟩)
def oHash (w : World) : Option Key → Int
  | some k => keyH w k
  | none => hNone
theorem dec_ss (a b : Key) : decide (some a = some b) = decide (a = b) := by
  by_cases e : a = b
  · subst e; simp
  · rw [decide_eq_false e, decide_eq_false (fun z => e (Option.some.inj z))]
def optKind (prog : Program) (w : World) : PySem.KeyKind prog w (Option Key) where
  is := oIs
  hash := oHash w
  inj := fun v a b ha hb => by
    rcases oIs_shape ha with ⟨i, t, rfl, rfl⟩ | ⟨z, t, rfl, rfl⟩ | ⟨rfl, rfl⟩ <;> rcases oIs_shape hb with ⟨i', t', rfl, e⟩ | ⟨z', t', rfl, e⟩ | ⟨rfl, e⟩ <;> cases e <;> rfl
  byValue := fun k v h => by rcases oIs_shape h with ⟨i, t, rfl, rfl⟩ | ⟨z, t, rfl, rfl⟩ | ⟨rfl, rfl⟩ <;> rfl
  pyHash := fun hv h => by
    rcases oIs_shape hv with ⟨i, t, rfl, rfl⟩ | ⟨z, t, rfl, rfl⟩ | ⟨rfl, rfl⟩
    · exact wpAny_pyHash_int h
    · exact wpAny_pyHash_str h
    · exact pyHash_nil h
  eqBool := fun hu hv h => by
    rcases oIs_shape hu with ⟨i, t, rfl, rfl⟩ | ⟨z, t, rfl, rfl⟩ | ⟨rfl, rfl⟩ <;> rcases oIs_shape hv with ⟨i', t', rfl, rfl⟩ | ⟨z', t', rfl, rfl⟩ | ⟨rfl, rfl⟩
    · rw [dec_ss, key_ll] at h; exact wpAny_eqBool_int h
    · rw [dec_ss, key_lr] at h; exact SeqAt.EqAt.int_str i t z' t' _ _ _ _ h
    · exact SeqAt.EqAt.int_none i t _ _ _ _ h
    · rw [dec_ss, key_rl] at h; exact SeqAt.EqAt.str_int z t i' t' _ _ _ _ h
    · rw [dec_ss, key_rr] at h; exact wpAny_eqBool_str h
    · exact SeqAt.EqAt.str_none z t _ _ _ _ h
    · exact SeqAt.EqAt.none_int i' t' _ _ _ _ h
    · exact SeqAt.EqAt.none_str z' t' _ _ _ _ h
    · exact SeqAt.EqAt.same .none _ _ _ _ h
  «strs» := fun k x t v h => by
    rcases oIs_shape h with ⟨i, u, rfl, e⟩ | ⟨y, u, rfl, e⟩ | ⟨rfl, e⟩
    · cases e
    · cases e
      cases v <;> rfl
    · cases e
section
variable {P : Program} {w : World}
theorem its_opt : ∀ {ks : List Key} {vs : List Value}, ItemsAre (mixKind P w) ks vs → ItemsAre (optKind P w) (ks.map some) vs
  | _, _, .nil => .nil
  | _, _, .cons h t => .cons h (its_opt t)
theorem isk_opt {h : Heap} {k : List Key} {b : Addr} (x : IsTupleKey (mixKind P w) h k b) : IsTupleKey (optKind P w) h (k.map some) b := by
  obtain ⟨o, its, n, g, c, d, i⟩ := x
  exact ⟨o, its, n, g, c, d, its_opt i⟩
theorem hash_opt (k : List Key) : tupleKeyHash (optKind P w) (k.map some) = tupleKeyHash (mixKind P w) k := by
  unfold tupleKeyHash
  rw [List.map_map]; rfl
def upKey (x : List Key × Addr × Value) : List (Option Key) × Addr × Value := (x.1.map some, x.2)
theorem map_some_inj : ∀ {a b : List Key}, a.map some = b.map some → a = b
  | [], [], _ => rfl
  | x :: a, y :: b, e => by
    rw [List.map_cons, List.map_cons] at e
    injection e with e1 e2
    rw [Option.some.inj e1, map_some_inj e2]
theorem dict_opt {h : Heap} {d : Addr} {xs : List (List Key × Addr × Value)} (x : h.DictOfH (tupleKind (mixKind P w)) d xs) : h.DictOfH (tupleKind (optKind P w)) d (xs.map upKey) := by
  obtain ⟨o, es, ep, g, ex, dt, rows, all, nd⟩ := x
  refine ⟨o, es, ep, g, ex, dt, ?_, fun y hy => ?_, ?_⟩
  · rw [rows, List.map_map]
    refine List.map_congr_left fun y hy => ?_
    show entryOfKey (tupleKind (mixKind P w)) y = entryOfKey (tupleKind (optKind P w)) (upKey y)
    unfold entryOfKey upKey
    rw [show (tupleKind (optKind P w)).hash (y.1.map some) = (tupleKind (mixKind P w)).hash y.1 from hash_opt y.1]
  · obtain ⟨z, hz, rfl⟩ := List.mem_map.mp hy
    exact isk_opt (all z hz)
  · have e : (xs.map upKey).map (·.1) = (xs.map (·.1)).map (List.map some) := by rw [List.map_map, List.map_map]; rfl
    rw [e]
    exact List.Pairwise.map _ (fun a b n z => n (map_some_inj z)) nd
theorem at_opt : ∀ (xs : List (List Key × Addr × Value)) (k : List (Option Key)), none ∈ k → atKey (xs.map upKey) k = none := fun xs k hk => by
  have e : ((xs.map upKey).find? fun x => decide (x.1 = k)) = none := by
    rw [List.find?_eq_none]
    intro x hx z
    obtain ⟨y, hy, rfl⟩ := List.mem_map.mp hx
    have z : y.1.map some = k := of_decide_eq_true z
    rw [← z] at hk
    obtain ⟨j, _, e⟩ := List.mem_map.mp hk
    cases e
  simp [atKey, e]
end
def oV : Option Key → V
  | some k => kV k
  | none => .non
theorem its_o {P : Program} {w : World} : ∀ {k : List (Option Key)} {us : List Value}, Vals (k.map oV) us → ItemsAre (optKind P w) k us
  | [], _, r => by cases r; exact .nil
  | some k :: ks, _, r => by
    cases r with
    | cons h t => exact .cons (kV_is (P := P) (w := w) h) (its_o t)
  | none :: ks, _, r => by
    cases r with
    | cons h t =>
      cases h
      exact .cons rfl (its_o t)
section
variable {X : Cx}
/-- not there: a key with None in it -/
theorem d_getN {pins : List (Addr × Obj)} {σ : L2.St} {H : Hp} {s : Shared} {a b : Addr} {A : Around} {E : Value → Shared → Prop} {kvs : List (List Key × V)} {k : List (Option Key)} {Q : Value → Shared → Prop} (hu : A.units + 1 < cLine) (I : Inv X pins σ H s) (e : H a = some (.dT kvs)) (eb : SqT X.K H b (k.map oV)) (hk : none ∈ k)
    (q : ∀ s', Inv X pins σ H s' → Q .none s') : wpAny (model X.prog X.w) A (call (.builtin "dict.get") [.ref a, .ref b]) Q E s := by
  obtain ⟨z, hd, xs, rel, dd⟩ := dt_rd I.hok (.inl e)
  have key : IsTupleKey (optKind X.prog X.w) s.heap k b := by
    obtain ⟨its, r, pl, _⟩ := I.tuple eb
    obtain ⟨o, ho, hc, n, hd⟩ := pl
    exact ⟨o, its.toArray, n, ho, hc, hd, by simpa using its_o r⟩
  refine call_meetsIn PySem.F.slot_dict_get dd.typeIs PySem.F.entry_dict_get (PySem.F.args_dict_get_2 _ _) (meetsH_dict_get (tupleKind (optKind X.prog X.w)) a b hd) ⟨tupleKind_room_in1 hu, k, _, key, dict_opt dd, ?_⟩
  rw [at_opt xs k hk]
  exact q _ (I.tok _)
/-- d.get(y): y a tuple of ints, texts and None -/
def tGetN (K : PySem.W.Frag) (td ty : TE) : TE := fun σ H Q => td σ H fun x H1 => ∃ a kvs, x = .ref a ∧ H1 a = some (.dT kvs) ∧ ty σ H1 fun y H2 => H2 a = some (.dT kvs) ∧ ∃ b, y = .ref b ∧ ((∃ k : List Key, H2 b = some (.tup (k.map kV)) ∧ Q ((valV kvs k).getD .non) H2) ∨ ∃ k : List (Option Key), SqT K H2 b (k.map oV) ∧ none ∈ k ∧ Q .non H2)
theorem pe_getN {o e : Expr} {apos cpos : Pos} {td ty : TE} (hu : X.A.units + 1 < cLine) (ho : PE X o td) (he : PE X e ty) (m : M1 X o "get" apos e cpos) : PE X (.Call (.Attribute o "get" apos) [e] [] cpos) (tGetN X.K td ty) := by
  refine ⟨fun pins s σ H Q I h => ?_⟩
  refine wpAny_Call_method m.base m.few m.line PySem.F.plainAttrs_dict PySem.F.slot_dict_get PySem.F.type_dict_get (thn (ho.run pins s σ H _ I h) fun u s1 ⟨x, H1, I1, rx, a, kvs, ex, ha, q1⟩ => ?_)
  subst ex
  obtain rfl : u = Value.ref a := rx
  obtain ⟨t1, t2, _⟩ := isD_at I1 (.inr ⟨kvs, .inl ha⟩)
  refine ⟨t1, t2, ?_⟩
  rw [m.trees]
  refine Calls.callWith_builtin rfl (Calls.evalArgs_plain (Calls.spliced_cons (thn (he.run pins s1 σ H1 _ I1 q1) fun iv s2 ⟨y, H2, I2, ry, ha2, b, ey, q2⟩ => Calls.spliced_nil ?_)))
  subst ey
  rcases q2 with ⟨k, eb, q2⟩ | ⟨k, eb, hk, q2⟩
  · exact d_get1 hu I2 (.t ha2 eb) ry fun w' s3 I3 rw' => ⟨_, H2, I3, rw', q2⟩
  · cases ry
    exact d_getN hu I2 ha2 eb hk fun s3 I3 => ⟨.non, H2, I3, rfl, q2⟩
end
end Ss
namespace Ss
open PySem PySem.Spec PyProof.Rows L2 Sw
/-! ### tuple[::-1], text[::-1] -/
theorem places_back (n : Nat) : Builtin.Slice.slicePlaces ((n : Int) - 1) (-1) (-1) = n := by
  unfold Builtin.Slice.slicePlaces
  rw [if_neg (by decide)]
  by_cases h : (n : Int) - 1 > -1
  · rw [if_pos h, show (-(-1) : Int) = 1 by decide, Int.ediv_one]; omega
  · rw [if_neg h]; omega
theorem fm_congr {α β : Type} {f g : α → Option β} : ∀ {l : List α}, (∀ a ∈ l, f a = g a) → l.filterMap f = l.filterMap g
  | [], _ => rfl
  | a :: l, h => by
    have ih := fm_congr (f := f) (g := g) (l := l) fun b hb => h b (List.mem_cons_of_mem _ hb)
    have e := h a (List.mem_cons_self ..)
    rw [List.filterMap_cons, List.filterMap_cons, e, ih]
theorem pick_back (xs : Array Value) : ((List.range xs.size).filterMap fun (k : Nat) => xs[(((xs.size : Int) - 1) + (k : Int) * (-1)).toNat]?) = xs.toList.reverse := by
  have e : ((List.range xs.size).filterMap fun (k : Nat) => xs[(((xs.size : Int) - 1) + (k : Int) * (-1)).toNat]?) = ((List.range xs.size).map fun k => xs.size - 1 - k).filterMap (xs[·]?) := by
    rw [List.filterMap_map]
    refine fm_congr fun k hk => ?_
    have := List.mem_range.mp hk
    show xs[(((xs.size : Int) - 1) + (k : Int) * (-1)).toNat]? = xs[xs.size - 1 - k]?
    have e : (((xs.size : Int) - 1) + (k : Int) * (-1)).toNat = xs.size - 1 - k := by omega
    rw [e]
  rw [e, PySem.W.krv_range, List.filterMap_reverse, PySem.W.krv_all]
section
variable {prog : Program} {w : World} {A : Around} {E : Value → Shared → Prop} {s : Shared}
theorem applied_rev {sl : Addr} {vk : Value} {n : Nat} {Q : Int × Int × Nat → Shared → Prop} (hs : s.heap.IsSliceOf sl .none .none vk) (hk : IsPart vk (some (-1))) (q : Q ((n : Int) - 1, -1, n) s) : wpAny (model prog w) A (Builtin.Slice.sliceApplied (.ref sl) (pure (n : Int))) Q E s := by
  obtain ⟨os, g, c, d⟩ := id hs
  unfold Builtin.Slice.sliceApplied Builtin.Slice.sliceFields
  refine wpAny_bind (wpAny_bind (wpAny_field g d (x := .none) rfl (wpAny_bind (wpAny_field g d (x := .none) rfl (wpAny_bind (wpAny_field g d (x := vk) rfl (wpAny_pure ?_)))))))
  refine wpAny_bind (HT.slicePart_ hk ?_)
  refine (show wpAny (model prog w) _ (if ((-1 : Int) == 0) = true then _ else _) _ _ s from ?_)
  rw [if_neg (show ¬ ((-1 : Int) == 0) = true by decide)]
  refine wpAny_bind (HT.slicePart_ .none (wpAny_bind (HT.slicePart_ .none (wpAny_bind (wpAny_pure ?_)))))
  refine wpAny_pure ?_
  show Q ((n : Int) - 1, -1, Builtin.Slice.slicePlaces ((n : Int) - 1) (-1) (-1)) s
  rw [places_back]; exact q
theorem tup_rev {t sl : Addr} {xs : Array Value} {vk : Value} {Q : Value → Shared → Prop} (ht : IsTup s.heap t xs) (hs : s.heap.IsSliceOf sl .none .none vk) (hk : IsPart vk (some (-1))) (hz : xs.size ≤ sizeLine)
    (q : Q (.ref s.heap.objs.size) { s with heap := s.heap.push { cls := .type "tuple", data := .seq xs.toList.reverse.toArray } }) : wpAny (model prog w) A (getItem (.ref t) (.ref sl)) Q E s := by
  obtain ⟨os, g, c, d⟩ := id hs
  have ty : s.TypeIs (.ref sl) "slice" := ⟨os, g, c⟩
  unfold getItem
  try with_reducible refine wpAny_holding ?_
  first | refine wpAny_bind (wpAny_pure ?_) | skip
  refine wpAny_bind (wpAny_sequenceKey ht.typeIs (by decide) ?_)
  refine wpAny_bind (wpAny_callSpecial?_slot (name := Str.ofString "__getitem__") ht.typeIs PyProof.Rows.slot_tuple_getitem (wpAny_call_entry PyProof.Rows.slot_tuple_getitem ht.typeIs entry_tuple_getitem ?_ (args_tuple_getitem _ _)))
  refine (show wpAny (model prog w) _ (Builtin.Tuple.tupleItemsOf (.ref t) >>= _) _ _ s from wpAny_bind (tupleItemsOf_ ht ?_))
  refine wpAny_bind (wpAny_typeOf ty ?_)
  rw [if_pos (show (Value.type "slice" == Value.type "slice") = true from by decide)]
  refine wpAny_bind (applied_rev (n := xs.size) hs hk ?_)
  have ng : ¬ (((xs.size : Int) - 1 == 0 && (-1 : Int) == 1 && xs.size == xs.size) = true) := by simp
  refine (show wpAny (model prog w) _ (if ((xs.size : Int) - 1 == 0 && (-1 : Int) == 1 && xs.size == xs.size) = true then _ else _) _ _ s from ?_)
  rw [if_neg ng]
  have e := congrArg List.toArray (pick_back xs)
  refine (show wpAny (model prog w) _ (Builtin.Tuple.tupleExact ((List.range xs.size).filterMap fun (k : Nat) => xs[(((xs.size : Int) - 1) + (k : Int) * (-1)).toNat]?).toArray >>= _) _ _ s from ?_)
  rw [e]
  have hz : sizeOk (.seq xs.toList.reverse.toArray) := by show xs.toList.reverse.toArray.size ≤ sizeLine; simpa using hz
  first
    | exact wpAny_bind (m := Builtin.Tuple.tupleExact _) (wpAny_newObj_type (wpAny_pure ⟨_, rfl, wpAny_pure q⟩) hz)
    | exact wpAny_bind (m := Builtin.Tuple.tupleExact _) (wpAny_newObj_type (wpAny_bind (wpAny_pure (wpAny_pure ⟨_, rfl, wpAny_pure q⟩))) hz)
    | exact wpAny_bind (wpAny_bind (m := Builtin.Tuple.tupleExact _) (wpAny_newObj_type (wpAny_pure (wpAny_pure ⟨_, rfl, wpAny_pure q⟩)) hz))
end
def revS (z : Str) : Str := ⟨z.cps.toList.reverse.toArray⟩
section
variable {X : Cx}
/-- x[::-1] of a list, a tuple, a text -/
def tRevX (K : PySem.W.Frag) (te : TE) : TE := fun σ H Q => te σ H fun x H1 => (∃ a xs, x = .ref a ∧ SqL K H1 a xs ∧ ∀ p, H1 p = none → Q (.ref p) (upd H1 p (.lst xs.reverse))) ∨ (∃ a xs, x = .ref a ∧ SqT K H1 a xs ∧ ∀ p, H1 p = none → Q (.ref p) (upd H1 p (.tup xs.reverse))) ∨
  ∃ z, x = .str z ∧ z.length ≤ sizeLine ∧ Q (.str (revS z)) H1
theorem pe_revX {e : Expr} {te : TE} {k : Nat} {p1 p2 p3 pos : Pos} (he : PE X e te) : PE X (.Subscript e (.Slice none none (some (.UnaryOp .USub (.Constant (.int 1) k p1) p2)) p3) pos) (tRevX X.K te) := by
  refine ⟨fun pins s σ H Q I h => Subscript_ (thn (he.run pins s σ H _ I h) fun z s1 ⟨x, H1, J, r1, q1⟩ => ?_)⟩
  have hst : PO X (some (.UnaryOp .USub (.Constant (.int 1) k p1) p2)) (tPart (tUn (rU fun i => .int (-i)) (tC (.int 1)))) := po_some (pe_un un_neg pe_int)
  refine wpAny_Slice (thn (po_none.run pins s1 σ H1 (fun o G => o = none ∧ G = H1) J ⟨rfl, rfl⟩) fun vl s2 ⟨l, G2, J2, pl, el, e2⟩ => ?_)
  subst el e2
  refine thn (po_none.run pins s2 σ G2 (fun o G => o = none ∧ G = G2) J2 ⟨rfl, rfl⟩) fun vu s3 ⟨m, G3, J3, pu, eu, e3⟩ => ?_
  subst eu e3
  refine thn (hst.run pins s3 σ G3 (fun o G => o = some (-1) ∧ G = G3) J3 ⟨1, rfl, -1, rfl, rfl, rfl⟩) fun vs s4 ⟨o, G4, J4, ps, eo, e4⟩ => ?_
  subst eo e4
  have J5 : Inv X pins σ G4 { s4 with heap := s4.heap.push { cls := .type "slice", data := .fields #[vl, vu, vs] } } := J4.kept (t' := s4.toks) fun b ob q => Heap.get?_push_of_some _ q
  rcases q1 with ⟨a, xs, rfl, hx, q⟩ | ⟨a, xs, rfl, hx, q⟩ | ⟨y, rfl, hy, q⟩
  · cases r1
    obtain ⟨its, r, ht, hz⟩ := J5.list hx
    have hl := r.length
    refine tail_any (ops := [.ref a, .ref s4.heap.objs.size]) ht.isList.typeIs PySem.slot_list_getitem.lookup ?_ (by with_unfolding_all rfl)
    refine wpAny_getItem_list_slice ht.isList (Heap.IsSliceOf.new _ vl vu vs) pl pu ps (by decide) ?_ (by rw [List.size_toArray]; omega)
    rw [PySem.W.krv_pick]
    exact ⟨.ref _, _, J5.laid (t' := s4.toks) (o := .lst xs.reverse) (fun b ob q => Heap.get?_push_of_some _ q) (Nat.le_refl _) ⟨by rw [List.length_reverse]; exact hz, _, 0, r.reverse, Heap.get?_push_size _ rfl⟩, rfl, q _ (J5.hok.fresh (Nat.le_refl _))⟩
  · cases r1
    obtain ⟨its, r, ht, hz⟩ := J5.tuple hx
    have hl := r.length
    cases pl
    cases pu
    refine tail_any (ops := [.ref a, .ref s4.heap.objs.size]) ht.typeIs PyProof.Rows.slot_tuple_getitem.lookup ?_ (by with_unfolding_all rfl)
    refine tup_rev ht (Heap.IsSliceOf.new _ .none .none vs) ps (by rw [List.size_toArray]; omega) ?_
    exact ⟨.ref _, _, J5.laid (t' := s4.toks) (o := .tup xs.reverse) (fun b ob q => Heap.get?_push_of_some _ q) (Nat.le_refl _) ⟨by rw [List.length_reverse]; exact hz, _, r.reverse, IsTup.new _ _⟩, rfl, q _ (J5.hok.fresh (Nat.le_refl _))⟩
  · obtain ⟨tk, rfl⟩ := r1
    obtain ⟨l', el, el2⟩ := IsPart.raw pl
    obtain ⟨u', eu, eu2⟩ := IsPart.raw pu
    obtain ⟨v', ev, ev2⟩ := IsPart.raw ps
    refine tail_any (ops := [.str y tk, .ref s4.heap.objs.size]) (typeIs_str _ y tk) PyProof.Rows.slot_str_getitem.lookup ?_ (by with_unfolding_all rfl)
    refine wpAny_getItem_str_slice (l := l') (u := u') (st := v') ?_ (by rw [ev2]; rfl) ?_
    · rw [el, eu, ev]
      exact ⟨_, Heap.get?_push_size _ rfl, rfl, rfl⟩
    · have e0 : slicePicked y l' u' v' = (List.range y.cps.size).reverse := by
        unfold slicePicked
        rw [el2, eu2, ev2]
        show Builtin.Str.strSliceIndices none none (-1) y.cps.size = _
        unfold Builtin.Str.strSliceIndices
        show sliceRange ((y.cps.size : Int) - 1) (-1) (-1) = _
        rw [PySem.W.krv_sliceRange, PySem.W.krv_range]
      have e1 : sliceMade y tk l' u' v' = .str (revS y) := by
        unfold sliceMade
        rw [ev2]
        rw [if_neg (show ¬ ((((some (-1) : Option Int)).getD 1 == 1 && (slicePicked y l' u' v').length == y.length) = true) by simp), e0, List.filterMap_reverse, PySem.W.krv_all]
        rfl
      rw [e1]
      have hl : (revS y).length ≤ sizeLine := by
        show y.cps.toList.reverse.toArray.size ≤ sizeLine
        rw [List.size_toArray, List.length_reverse, Array.length_toList]; exact hy
      exact ⟨hl, .str (revS y), G4, J5.tok _, ⟨_, rfl⟩, q⟩
end
end Ss
namespace Dl
open PySem PySem.Spec PyProof.Rows L2 Sw Ss
/-! ### defs that may be called anywhere -/
def FnK (P : Program) (w : World) (K : PySem.W.Frag) (mg : Str → Option Value) (base : Heap) (l : Nat) (f : Addr) (fd : FuncData) (ps : List Str) (k : Dek) (sp : DSp) : Prop := FnOk P w K mg base CX0 l f fd ps (spL K k sp)
section
variable {P : Program} {w : World} {K : PySem.W.Frag} {mg : Str → Option Value} {base : Heap} {l : Nat} {f : Addr} {fd : FuncData} {ps : List Str} {k : Dek} {sp : DSp}
theorem FnK.mono {j : Nat} (F : FnK P w K mg base j f fd ps k sp) (h : j ≤ l) : FnK P w K mg base l f fd ps k sp := FnOk.mono F h
theorem spL_imp {K : PySem.W.Frag} {k : Dek} {sp sp' : DSp} (h : ∀ ds n P, sp' ds n P → sp ds n P) (vs : List V) (H : Hp) (Q : VK) (E : XK) (q : spL K k sp' vs H Q E) : spL K k sp vs H Q E := by
  obtain ⟨G, ds, n, P, h1, h2, h3, h4, h5, h6⟩ := q
  exact ⟨G, ds, n, P, h1, h2, h3, h4, h _ _ _ h5, h6⟩
theorem FnK.imp {sp' : DSp} (F : FnK P w K mg base l f fd ps k sp) (h : ∀ ds n P, sp' ds n P → sp ds n P) : FnK P w K mg base l f fd ps k sp' := FnOk.imp F (spL_imp h)
theorem fnk_of {x q : Str} {pa : Arguments} {bo : List Stmt} {sc : Scope} {N : List Str} (F : FunD K x q pa bo sc [] [] f fd) (S : FnScope N ps sc) (hl : ∀ ds n P, sp ds n P → ds.length = ps.length)
    (hbo : ∀ (cv : Value) (A : Around) (out : List Env) (s : Shared) (H : Hp) (E : XK) (W : Wd k) (ds : List D) (n : Int) (Q : D → Int → Prop), Room l (A.deeper (envOfC q sc s.heap.objs.size f cv)) → sp ds n Q →
      ∃ t, DSs (cxOf CX0 P w K mg base N q sc f cv A out s H E).nox W bo t ∧ t { nx := fun S => Q .non S.dr, rt := fun d S => Q d S.dr } ⟨startD N ds, n⟩) : FnK P w K mg base (l + 1) f fd ps k sp := by
  have lN : ps.length ≤ N.length := by have := congrArg List.length S.pre; rw [List.length_take] at this; omega
  refine F.ok S (fun vs H Q E ⟨G, ds, n, P, _, _, _, dv, h, _⟩ => (dva_len dv).trans (hl _ _ _ h)) fun cv A out s H vs Q E hr ⟨G, ds, n, R, sGH, g, dk, dv, h, q⟩ => ?_
  obtain ⟨t, ht, hq⟩ := hbo cv A out s H E (Wd.of k G H g) ds n R hr h
  have R0 := rep_start (K := K) (N := N) (by rw [hl _ _ _ h]; exact lN) sGH g dk dv
  have fin : ∀ d S' σ H' G' v, Same G G' → R d S'.dr → Rep (Wd.of k G H g) K G' H' σ S' → Dv K G' v d → Q v H' := fun d S' σ H' G' v s' r R' dv' => by
    refine q d S'.dr r v H' G' s' R'.gh (fun a o e => ?_) (fun a o e m => R'.fr a o ?_) R'.dk dv'
    · rcases R'.nw a o e with e | ⟨e, m⟩
      · exact .inl e
      · refine .inr ⟨?_, m⟩
        have e : (if a ∈ k.dk then none else H a) = none := e
        exact (if_neg (show a ∉ k.dk from m)).symm.trans e
    · show (if a ∈ k.dk then none else H a) = some o
      exact (if_neg (show a ∉ k.dk from m)).trans e
  exact ⟨_, PSs.nox ht, G, _, _, R0, hq, ⟨fun S' σ H' G' s' r R' => fin .non S' σ H' G' .non s' r R' .non, fun d S' σ H' G' v s' r R' dv' => fin d S' σ H' G' v s' r R' dv', fun _ _ _ _ _ z => z.elim, fun _ _ _ _ _ z => z.elim⟩⟩
end
section
variable {X : Cx} {kk : Dek} {W : Wd kk} {l : Nat} {f : Addr} {fd : FuncData} {ps : List Str} {sp : DSp} {x : Str} {p pos apos : Pos} {a b e : Expr} {es : List Expr} {t : DTA} {ta tb te : DT}
theorem de_callK (F : FnK X.prog X.w X.K X.mg X.base l f fd ps kk sp) (hr : Room l X.A) (hg : Gl X x) (hm : X.mg x = some (.ref f)) (hk : PySem.W.keepIn X.K (.ref f) = true) (hb : Binds X.K fd ps [])
    (ha : DA X W (e :: es) t) (hd : (x == ("__debug__" : Str)) = false := by decide) (he : starEach (e :: es) X.env = (false, eval e X.env) :: starEach es X.env := by rfl)
    (hp : (backTo pos (starEach es X.env)).any (·.1) = false := by rfl) : DE X W (.Call (.Name x p) (e :: es) [] pos) (dCall sp t) := by
  refine pe_imp (pe_call (E := E0) F hr hg hm hk hb .nil pass0 ha hd he hp) fun σ H Q ⟨G, S, P, R, h, q⟩ => ?_
  refine ⟨G, S, _, R, h, fun ds S1 p1 vs H1 G1 s1 R1 dv => ?_⟩
  show spL X.K kk sp (vs ++ []) H1 Q E0
  rw [List.append_nil]
  exact after_call R1 dv p1 fun d S2 p2 v H2 G2 s2 R2 dv2 => q d S2 p2 v H2 G2 (s1.trans s2) R2 dv2
/-! ### x[::-1] -/
def backD (x : D) (P : D → Prop) : Prop := match x with
  | .lst a => P (.lst a.reverse)
  | .tup a => P (.tup a.reverse)
  | .str z => z.length ≤ sizeLine ∧ P (.str (revS z))
  | _ => False
def dBack (t : DT) : DT := fun S P => t S fun x S1 => backD x fun d => P d S1
theorem de_back {k : Nat} {p1 p2 p3 : Pos} (he : DE X W e te) : DE X W (.Subscript e (.Slice none none (some (.UnaryOp .USub (.Constant (.int 1) k p1) p2)) p3) pos) (dBack te) := by
  refine pe_imp (pe_revX he) fun σ H Q ⟨G, S, P, R, p, q⟩ => ?_
  refine ⟨G, S, _, R, p, fun x S1 p1 v H1 G1 s1 R1 d1 => ?_⟩
  cases x with
  | lst ds =>
    cases d1 with
    | @lst a xs _ h1 h2 =>
      refine .inl ⟨_, _, rfl, SqL.of (R1.gh _ _ h1), fun p hp => ?_⟩
      have g := same_upd (o := .lst xs.reverse) (R1.gh.free hp)
      exact q _ S1 p1 _ _ _ (s1.trans g) (R1.new hp) (.lst upd_same (DvAll.up g _ _ (dva_rev h2)))
  | tup ds =>
    cases d1 with
    | @tup a xs _ h1 h2 =>
      refine .inr (.inl ⟨_, _, rfl, SqT.of (R1.gh _ _ h1), fun p hp => ?_⟩)
      have g := same_upd (o := .tup xs.reverse) (R1.gh.free hp)
      exact q _ S1 p1 _ _ _ (s1.trans g) (R1.new hp) (.tup upd_same (DvAll.up g _ _ (dva_rev h2)))
  | str z =>
    cases d1
    exact .inr (.inr ⟨z, rfl, p1.1, q _ S1 p1.2 _ H1 G1 s1 R1 (.str _)⟩)
  | _ => exact p1.elim
/-! ### a sign in a text -/
def dInS (f : Bool → Bool) (x y : D) (P : D → Prop) : Prop := match x, y with
  | .str i, .str j => ∃ c, i = ⟨#[c]⟩ ∧ P (.bl (f (decide (c ∈ j.cps.toList))))
  | _, _ => False
theorem do_in_sign : DOpB X W (compareOp .In) (dInS id) := by
  refine ⟨_, op_in_sign, fun G H σ S v w x y P Q R hv hw h q => ?_⟩
  cases x with
  | str i =>
    cases y with
    | str j => cases hv; cases hw; obtain ⟨c, rfl, h⟩ := h; exact ⟨c, j, rfl, rfl, q _ h⟩
    | _ => exact h.elim
  | _ => exact h.elim
theorem do_notin_sign : DOpB X W (compareOp .NotIn) (dInS (!·)) := by
  refine ⟨_, op_notIn_sign, fun G H σ S v w x y P Q R hv hw h q => ?_⟩
  cases x with
  | str i =>
    cases y with
    | str j => cases hv; cases hw; obtain ⟨c, rfl, h⟩ := h; exact ⟨c, j, rfl, rfl, q _ h⟩
    | _ => exact h.elim
  | _ => exact h.elim
/-! ### {} -/
theorem do_emp : DO X W (.Dict [] [] pos) (dC (.dk [] [])) := by
  refine pe_imp pe_dnewK fun σ H Q ⟨G, S, P, R, p, q⟩ => ?_
  show ∀ p, H p = none → Q (.ref p) (upd H p (.dK []))
  intro a ha
  obtain ⟨R2, f, no⟩ := R.fresh (u := .dK []) ha
  exact q _ S p a _ G (Same.refl _) R2 f ⟨[], upd_same, rfl, .nil⟩ no
/-! ### t != () -/
theorem op_neNil (hu : X.A.units < cLine) : OpR X (compareOp .NotEq) (fun x y H Q => ∃ a xs b, x = .ref a ∧ SqT X.K H a xs ∧ y = .ref b ∧ SqT X.K H b [] ∧ Q (.bl (!xs.isEmpty)) H) := by
  intro pins s σ H x y v u Q I rx ry ⟨a, xs, b, ex, hx, ey, hy, q⟩
  subst ex ey
  cases rx
  cases ry
  obtain ⟨its, r, ht, _⟩ := I.tuple hx
  obtain ⟨its2, r2, ht2, _⟩ := I.tuple hy
  cases r2
  have hl := r.length
  refine SeqAt.RcNeAt.tuples (e := fun _ => true) ht ht2 hu (fun j _ h2 => absurd h2 (Nat.not_lt_zero _)) X.prog X.w _ _ ?_
  refine ⟨.bl _, H, I, ?_, q⟩
  show Value.bool _ = Value.bool _
  congr 1
  cases xs with
  | nil => cases its with
    | nil => rfl
    | cons _ _ => cases hl
  | cons _ _ => cases its with
    | nil => cases hl
    | cons _ _ => simp
def dNeNil (x y : D) (P : D → Prop) : Prop := match x, y with
  | .tup ds, .tup [] => P (.bl (!ds.isEmpty))
  | _, _ => False
theorem do_neNil (hu : X.A.units + 64 < cLine) : DOpB X W (compareOp .NotEq) dNeNil := by
  refine ⟨_, op_neNil (by omega), fun G H σ S v w x y P Q R hv hw h q => ?_⟩
  unfold dNeNil at h
  split at h
  · cases hv with
    | @tup a xs _ h1 h2 =>
      cases hw with
      | @tup b ys _ h3 h4 =>
        cases h4
        refine ⟨a, xs, b, rfl, SqT.of (R.gh _ _ h1), rfl, SqT.of (R.gh _ _ h3), q _ ?_⟩
        cases h2 <;> exact h
  · exact h.elim
/-! ### a <= b <= c as a test -/
theorem dt_chainv (h : DE X W e ta) (he : ∀ whole, isTrue e X.env whole = (do let v ← whole; standAt e.pos; holding [v] (truthy v)) := by intro _; rfl) : DTe X W e (dBool ta) := dt_val h he
/-! ### 10 ** 18 -/
theorem do_op_pow : DOp X W (binaryOp .Pow) (dII CPow fun i j => .int (i ^ j.toNat)) := do_ii op_pow
/-! ### ''.join -/
def txts : List D → Option (List Str)
  | [] => some []
  | .str z :: ds => (txts ds).map (z :: ·)
  | _ :: _ => none
theorem txts_dv {K : PySem.W.Frag} {G : Hp} : ∀ {ds : List D} {zs : List Str} {vs : List V}, txts ds = some zs → DvAll K G vs ds → vs = zs.map V.str
  | [], _, _, e, h => by cases e; cases h; rfl
  | .str z :: ds, _, _, e, h => by
    obtain ⟨ys, e2, rfl⟩ := Option.map_eq_some_iff.mp (show (txts ds).map (z :: ·) = _ from e)
    cases h with
    | cons h1 h2 => cases h1; rw [List.map_cons, ← txts_dv e2 h2]
theorem txts_map : ∀ zs : List Str, txts (zs.map D.str) = some zs
  | [] => rfl
  | z :: zs => by show (txts (zs.map D.str)).map (z :: ·) = _; rw [txts_map zs]; rfl
def joinD (z : Str) (y : D) (P : D → Prop) : Prop := match y with
  | .lst ds => ∃ zs, txts ds = some zs ∧ (zs.map (·.length)).sum + zs.length * z.length ≤ 16777216 ∧ P (.str (Txt.join z zs))
  | .tup ds => ∃ zs, txts ds = some zs ∧ (zs.map (·.length)).sum + zs.length * z.length ≤ 16777216 ∧ P (.str (Txt.join z zs))
  | _ => False
def dJoin (ta tb : DT) : DT := fun S P => ta S fun x S1 => match x with
  | .str z => tb S1 fun y S2 => joinD z y fun d => P d S2
  | _ => False
theorem de_join (ha : DE X W a ta) (hb : DE X W b tb) (hs : starEach [b] X.env = [(false, eval b X.env)] := by rfl) (hbase : attributeBase a "join" X.env (eval a X.env) = eval a X.env := by rfl) (hline : (apos.endLine == pos.line) = true := by rfl) :
    DE X W (.Call (.Attribute a "join" apos) [b] [] pos) (dJoin ta tb) := by
  refine pe_imp (pe_join ha hb hs hbase hline) fun σ H Q ⟨G, S, P, R, p, q⟩ => ?_
  refine ⟨G, S, _, R, p, fun x S1 p1 v H1 G1 s1 R1 d1 => ?_⟩
  cases x with
  | str z =>
    cases d1
    refine ⟨⟨z, rfl⟩, G1, S1, _, R1, p1, fun y S2 p2 u H2 G2 s2 R2 d2 => ?_⟩
    cases y with
    | lst ds =>
      obtain ⟨zs, e, hz, p2⟩ := (show ∃ zs, txts ds = some zs ∧ _ from p2)
      cases d2 with
      | @lst c xs _ h1 h2 =>
        have ex := txts_dv e h2
        subst ex
        exact ⟨z, c, zs, rfl, rfl, .inl (SqL.of (R2.gh _ _ h1)), hz, q _ S2 p2 _ H2 G2 (s1.trans s2) R2 (.str _)⟩
    | tup ds =>
      obtain ⟨zs, e, hz, p2⟩ := (show ∃ zs, txts ds = some zs ∧ _ from p2)
      cases d2 with
      | @tup c xs _ h1 h2 =>
        have ex := txts_dv e h2
        subst ex
        exact ⟨z, c, zs, rfl, rfl, .inr (SqT.of (R2.gh _ _ h1)), hz, q _ S2 p2 _ H2 G2 (s1.trans s2) R2 (.str _)⟩
    | _ => exact False.elim p2
  | _ => exact False.elim p1
end
end Dl
namespace Dl
open PySem PySem.Spec PyProof.Rows L2 Sw Ss
/-! ### turns that change the state -/
theorem lcL_J {vs : List Nat} {g : DGT} {tt : DTT} {te : DT} {P : D → Ds → Prop} {ρ : List (Option Sl)} (J : Nat → List D → Int → Prop) : ∀ (ds : List D) (i : Nat) (acc : List D) (dr : Int),
    (∀ d ∈ ds, ∀ j acc dr, j < i + ds.length → J j acc dr → ∀ (A : D → Ds → Prop) (B : Ds → Prop), (∀ y S', wipeD S'.ρ vs = ρ → J (j + 1) (acc ++ [y]) S'.dr → A y S') → (∀ S', wipeD S'.ρ vs = ρ → J (j + 1) acc S'.dr → B S') →
      g d ⟨wipeD ρ vs, dr⟩ fun S2 => tt S2 fun b S3 => onT b (te S3 A) (B S3)) →
    acc.length + ds.length ≤ sizeLine → (∀ acc dr, J (i + ds.length) acc dr → P (.lst acc) ⟨ρ, dr⟩) → J i acc dr → lcL vs g tt te P ds acc ⟨ρ, dr⟩
  | [], i, acc, dr, _, _, fin, j => fin acc dr j
  | d :: ds, i, acc, dr, st, hz, fin, j => by
    rw [List.length_cons] at hz
    unfold lcL
    refine st d (List.mem_cons_self ..) i acc dr (by rw [List.length_cons]; omega) j _ _ (fun y S' e j' => ⟨by omega, ?_⟩) fun S' e j' => ?_
    · rw [e]
      exact lcL_J J ds (i + 1) (acc ++ [y]) S'.dr (fun d hd j a n hj => st d (List.mem_cons_of_mem _ hd) j a n (by rw [List.length_cons]; omega)) (by rw [List.length_append]; simp only [List.length_cons, List.length_nil]; omega)
        (fun a n h => fin a n (by rw [List.length_cons, show i + (ds.length + 1) = i + 1 + ds.length by omega]; exact h)) j'
    · rw [e]
      exact lcL_J J ds (i + 1) acc S'.dr (fun d hd j a n hj => st d (List.mem_cons_of_mem _ hd) j a n (by rw [List.length_cons]; omega)) (by omega)
        (fun a n h => fin a n (by rw [List.length_cons, show i + (ds.length + 1) = i + 1 + ds.length by omega]; exact h)) j'
/-- a loop: J holds ahead of each turn -/
theorem forL_J {g : DGT} {tb : DST} {E : DEnds} (J : List D → Ds → Prop) : ∀ (ds : List D) (S : Ds), (∀ d ds' S, (∃ pre, ds = pre ++ d :: ds') → J (d :: ds') S → ∀ N : Ds → Prop, (∀ S', J ds' S' → N S') → g d S fun S1 => tb { E with nx := N, ct := N, bk := E.nx } S1) → (∀ S, J [] S → E.nx S) → J ds S → forL g tb E ds S
  | [], S, _, fin, j => fin S j
  | d :: ds, S, st, fin, j => by
    unfold forL
    exact st d ds S ⟨[], rfl⟩ j _ fun S' j' => forL_J J ds S' (fun d' ds' S ⟨pre, e⟩ => st d' ds' S ⟨d :: pre, by rw [e]; rfl⟩) fin j'
/-! ### tuples of ints and texts, and sets of them -/
def kD : Key → D
  | .inl i => .int i
  | .inr z => .str z
def eT {α : Type} [DecidableEq α] [PySem.W.DatumOrd α] (κ : TKn α) (a : α) : D := .tup ((κ.ks a).map kD)
theorem keys_dv {K : PySem.W.Frag} {G : Hp} : ∀ {ks : List Key} {xs : List V}, DvAll K G xs (ks.map kD) → xs = ks.map kV
  | [], _, h => by cases h; rfl
  | .inl i :: ks, _, h => by cases h with | cons h1 h2 => cases h1; rw [List.map_cons, ← keys_dv h2]; rfl
  | .inr i :: ks, _, h => by cases h with | cons h1 h2 => cases h1; rw [List.map_cons, ← keys_dv h2]; rfl
section
variable {α : Type} [DecidableEq α] [PySem.W.DatumOrd α]
theorem rows_of {K : PySem.W.Frag} {G : Hp} (κ : TKn α) : ∀ {as : List α} {xs : List V}, DvAll K G xs (as.map (eT κ)) → ∃ rows : List (Addr × α), rows.map (·.2) = as ∧ xs = rows.map (fun p => V.ref p.1) ∧ ∀ p ∈ rows, G p.1 = some (.tup ((κ.ks p.2).map kV)) ∧ Dv K G (.ref p.1) (eT κ p.2)
  | [], _, h => by cases h; exact ⟨[], rfl, rfl, fun p hp => by cases hp⟩
  | a :: as, _, h => by
    cases h with
    | cons h1 h2 =>
      obtain ⟨rows, e1, e2, e3⟩ := rows_of κ h2
      have h1' := h1
      cases h1 with
      | @tup b ys _ k1 k2 =>
        have ey := keys_dv k2
        subst ey
        exact ⟨(b, a) :: rows, by rw [List.map_cons, e1], by rw [List.map_cons, e2], fun p hp => (List.mem_cons.mp hp).elim (fun e => by subst e; exact ⟨k1, h1'⟩) (e3 p)⟩
theorem dva_rows {K : PySem.W.Frag} {G : Hp} (κ : TKn α) : ∀ {bs : List (Addr × α)}, (∀ p ∈ bs, Dv K G (.ref p.1) (eT κ p.2)) → DvAll K G (bs.map fun p => V.ref p.1) ((bs.map (·.2)).map (eT κ))
  | [], _ => .nil
  | b :: bs, h => .cons (h b (List.mem_cons_self ..)) (dva_rows κ fun p hp => h p (List.mem_cons_of_mem _ hp))
end
section
variable {kk : Dek} {X : Cx} {W : Wd kk} {a b e : Expr} {ta tb te : DT} {α : Type} [DecidableEq α] [PySem.W.DatumOrd α] {p p2 q pos apos : Pos}
def dLenT (κ : TKn α) (t : DT) : DT := fun S P => t S fun x S1 => ∃ as : List α, (x = .tup (as.map (eT κ)) ∨ x = .lst (as.map (eT κ))) ∧ as.length < 63 ∧ ∀ bs : List α, bs.Nodup → (∀ b, b ∈ bs ↔ b ∈ as) → P (.int (bs.length : Nat)) S1
theorem mems_iff {rows bs : List (Addr × α)} (m : Mems rows bs) (c : α) : c ∈ bs.map (·.2) ↔ c ∈ rows.map (·.2) := ⟨fun h => by
  obtain ⟨b, hb, rfl⟩ := List.mem_map.mp h
  exact List.mem_map_of_mem (m.sub b hb), m.all c⟩
theorem de_lenT (κ : TKn α) (hc : X.calm = true) (hu : X.A.units + 64 < cLine) (hg : Gl X "len") (hm : X.mg "len" = none) (hg2 : Gl X "set") (hm2 : X.mg "set" = none) (ha : DE X W a ta)
    (na : starEach [a] X.env = (false, eval a X.env) :: starEach [] X.env := by rfl) : DE X W (.Call (.Name "len" p) [.Call (.Name "set" p2) [a] [] q] [] pos) (dLenT κ ta) := by
  refine pe_imp (pe_lenT κ hc hu hg hm hg2 hm2 ha na) fun σ H Q ⟨G, S, P, R, p, qq⟩ => ?_
  refine ⟨G, S, _, R, p, fun x S1 ⟨as, ex, few, p1⟩ v H1 G1 s1 R1 d1 => ?_⟩
  have fin : ∀ {l : Addr} {xs : List V}, (SqL X.K H1 l xs ∨ SqT X.K H1 l xs) → DvAll X.K G1 xs (as.map (eT κ)) → v = .ref l → ∃ (l : Addr) (rows : List (Addr × α)), v = .ref l ∧ (SqL X.K H1 l (rows.map fun p => V.ref p.1) ∨ SqT X.K H1 l (rows.map fun p => V.ref p.1)) ∧
      (∀ p ∈ rows, SqT X.K H1 p.1 ((κ.ks p.2).map kV)) ∧ rows.length < 63 ∧ ∀ bs, Mems rows bs → Q (.int (bs.length : Nat)) H1 := fun {l xs} hq dv ev => by
    obtain ⟨rows, e1, e2, e3⟩ := rows_of κ dv
    subst e2
    refine ⟨l, rows, ev, hq, fun p hp => SqT.of (R1.gh _ _ (e3 p hp).1), by rw [← List.length_map (f := (·.2)), e1]; exact few, fun bs m => ?_⟩
    have hp := p1 (bs.map (·.2)) m.nd fun b => by rw [mems_iff m, e1]
    rw [List.length_map] at hp
    exact qq _ S1 hp _ H1 G1 s1 R1 (.int _)
  rcases ex with rfl | rfl
  · cases d1 with | @tup l xs _ h1 h2 => exact fin (.inr (SqT.of (R1.gh _ _ h1))) h2 rfl
  · cases d1 with | @lst l xs _ h1 h2 => exact fin (.inl (SqL.of (R1.gh _ _ h1))) h2 rfl
def dSortT (κ : TKn α) (t : DT) : DT := fun S P => t S fun x S1 => ∃ as : List α, (x = .tup (as.map (eT κ)) ∨ x = .lst (as.map (eT κ))) ∧ as.length < 63 ∧ ∀ bs : List α, bs.Nodup → (∀ b, b ∈ bs ↔ b ∈ as) → bs.Pairwise (fun x y => PySem.W.DatumOrd.lt y x = false) → P (.lst (bs.map (eT κ))) S1
theorem do_sortT (κ : TKn α) (hc : X.calm = true) (hu : X.A.units + 64 < cLine) (hg : Gl X "sorted") (hm : X.mg "sorted" = none) (hg2 : Gl X "set") (hm2 : X.mg "set" = none) (ha : DE X W a ta)
    (na : starEach [a] X.env = (false, eval a X.env) :: starEach [] X.env := by rfl) : DO X W (.Call (.Name "sorted" p) [.Call (.Name "set" p2) [a] [] q] [] pos) (dSortT κ ta) := by
  refine pe_imp (pe_sortT κ hc hu hg hm hg2 hm2 ha na) fun σ H Q ⟨G, S, P, R, p, qq⟩ => ?_
  refine ⟨G, S, _, R, p, fun x S1 ⟨as, ex, few, p1⟩ v H1 G1 s1 R1 d1 => ?_⟩
  have fin : ∀ {l : Addr} {xs : List V}, (SqL X.K H1 l xs ∨ SqT X.K H1 l xs) → DvAll X.K G1 xs (as.map (eT κ)) → v = .ref l → ∃ (l : Addr) (rows : List (Addr × α)), v = .ref l ∧ (SqL X.K H1 l (rows.map fun p => V.ref p.1) ∨ SqT X.K H1 l (rows.map fun p => V.ref p.1)) ∧
      (∀ p ∈ rows, SqT X.K H1 p.1 ((κ.ks p.2).map kV)) ∧ rows.length < 63 ∧ ∀ bs p, Mems rows bs → bs.Pairwise (fun x y => PySem.W.DatumOrd.lt y.2 x.2 = false) → H1 p = none → Q (.ref p) (upd H1 p (.lst (bs.map fun r => V.ref r.1))) := fun {l xs} hq dv ev => by
    obtain ⟨rows, e1, e2, e3⟩ := rows_of κ dv
    subst e2
    refine ⟨l, rows, ev, hq, fun p hp => SqT.of (R1.gh _ _ (e3 p hp).1), by rw [← List.length_map (f := (·.2)), e1]; exact few, fun bs pp m pw hp => ?_⟩
    have hpp := p1 (bs.map (·.2)) m.nd (fun b => by rw [mems_iff m, e1]) (List.pairwise_map.mpr pw)
    obtain ⟨R2, f, no⟩ := R1.fresh (u := .lst (bs.map fun r => V.ref r.1)) hp
    exact qq _ S1 hpp pp _ G1 s1 R2 f (show Own X.K G1 (upd H1 pp (.lst (bs.map fun r => V.ref r.1))) pp (.lst ((bs.map (·.2)).map (eT κ))) from ⟨_, upd_same, dva_rows κ fun p hp => (e3 p (m.sub p hp)).2⟩) no
  rcases ex with rfl | rfl
  · cases d1 with | @tup l xs _ h1 h2 => exact fin (.inr (SqT.of (R1.gh _ _ h1))) h2 rfl
  · cases d1 with | @lst l xs _ h1 h2 => exact fin (.inl (SqL.of (R1.gh _ _ h1))) h2 rfl
/-! ### reversed(text) -/
def dIRevS (t : DT) : DIT := fun S P => t S fun x S1 => match x with
  | .str z => z.length < 2 ^ 62 ∧ P (z.cps.toList.reverse.map fun c => .str (chr c)) S1
  | _ => False
theorem di_revS {tg : Expr} (hg : Gl X "reversed") (hm : X.mg "reversed" = none) (he : DE X W e te) (hs : starEach [e] X.env = (false, eval e X.env) :: starEach [] X.env := by rfl) : DI X W tg (.Call (.Name "reversed" p) [e] [] pos) (dIRevS te) := by
  refine pi_imp (pi_revS hg hm he hs) fun σ H R ⟨G, S, P, Rp, p, q⟩ => ?_
  refine ⟨G, S, _, Rp, p, fun x S1 p1 v H1 G1 s1 R1 d1 => ?_⟩
  cases x with
  | str z =>
    cases d1
    have el : (z.cps.toList.reverse.map fun c => D.str (chr c)).length = z.length := by rw [List.length_map, List.length_reverse]; rfl
    refine ⟨z, rfl, p1.1, q _ S1 p1.2 H1 G1 s1 R1 (Itr z) (fun _ => True) (fun i H x H' => H' = H ∧ ∃ c, z.cps.toList[z.length - 1 - i]? = some c ∧ x = .str ⟨#[c]⟩) (by rw [el]; exact walk_revS) (fun _ _ => trivial) ?_⟩
    rintro i H2 x H3 hi ⟨eH, c, ec, ex⟩
    subst eH ex
    rw [el] at hi
    refine ⟨.str (chr c), ?_, comes_same (.str _)⟩
    rw [List.getElem?_map, List.getElem?_reverse (by show i < z.length; exact hi)]
    show (z.cps.toList[z.length - 1 - i]?).map _ = _
    rw [ec]; rfl
  | _ => exact p1.elim
end
end Dl
namespace Dl
open PySem PySem.Spec PyProof.Rows L2 Sw Ss
section
variable {kk : Dek} {X : Cx} {W : Wd kk} {a b c e : Expr} {ta tb tc te : DT} {p p2 q pos apos : Pos}
/-! ### a, b, c = x, [], y -/
def dPar3 (i j l : Nat) (ta tc : DT) : DST := fun E S => ta S fun x S1 => tc S1 fun z S2 => E.nx ⟨setS (setS (setS S2.ρ i (some (.v x))) j (some (.o (.lst [])))) l (some (.v z)), S2.dr⟩
theorem noOwn_setV {σ : L2.St} {S : Ds} {r : Addr} {i : Nat} {v : V} {d : D} (no : NoOwn σ S r) : NoOwn (σ.set i (some v)) ⟨setS S.ρ i (some (.v d)), S.dr⟩ r := fun j d' e z => by
  rcases getS_setS e with ⟨_, h, _⟩ | ⟨hj, h⟩
  · cases h
  · rw [List.getElem?_set_ne (Ne.symm hj)] at z; exact no j d' h z
theorem ds_par3 {i j l : Nat} {x y z : Str} {px py pz pt pl : Pos} {kt k2 pt2} (hcm : X.calm = true) (hN : X.N.Nodup) (hi : X.N[i]? = some x) (hj : X.N[j]? = some y) (hl : X.N[l]? = some z) (hij : i ≠ j) (hil : i ≠ l) (hjl : j ≠ l)
    (hx : X.env.scope.names.lookup x = some .local) (hy : X.env.scope.names.lookup y = some .local) (hz : X.env.scope.names.lookup z = some .local) (ha : DE X W a ta) (hc : ∀ W' : Wd kk, DE X W' c tc)
    (hw : swappedStores [.Tuple [.Name x px, .Name y py, .Name z pz] kt pt] (.Tuple [a, .List [] pl, c] k2 pt2) X.env = pure (some [x, y, z]))
    (hs : swapsWithSole [.Tuple [.Name x px, .Name y py, .Name z pz] kt pt] (.Tuple [a, .List [] pl, c] k2 pt2) pos.line X.env = pure false := by rfl)
    (h1 : starEach [a, .List [] pl, c] X.env = (false, eval a X.env) :: starEach [.List [] pl, c] X.env := by rfl) (h2 : starEach [.List [] pl, c] X.env = (false, eval (.List [] pl) X.env) :: starEach [c] X.env := by rfl) (h3 : starEach [c] X.env = (false, eval c X.env) :: starEach [] X.env := by rfl) :
    DS X W (.Assign [.Tuple [.Name x px, .Name y py, .Name z pz] kt pt] (.Tuple [a, .List [] pl, c] k2 pt2) pos) (dPar3 i j l ta tc) := by
  refine ps_imp (ps_par3 hcm hN hi hj hl hij hil hjl hx hy hz (pa_cons ha (pa_cons (pe_lst pa_nil) (pa_cons (pe_anyE hc) pa_nil h3) h2) h1) hw hs) fun N σ H ⟨G, S, E, R, p, ok⟩ => ?_
  refine ⟨G, S, _, R, p, fun x S1 p1 v H1 G1 s1 R1 d1 => ⟨Nat.zero_le _, fun r hr => ?_⟩⟩
  obtain ⟨R2, f, no⟩ := R1.fresh (u := .lst []) hr
  refine ⟨W.plus r (.lst []) f.d, G1, S1, _, R2.plus f no upd_same, p1, fun z S2 p2 w H3 G3 s3 R3 d3 => ?_⟩
  obtain ⟨R4, f4, no4, e4⟩ := Rep.less f.f (R1.bg.free f.g) R3
  refine ⟨_, _, _, rfl, ok.nx _ _ H3 G3 (s1.trans s3) p2 ?_⟩
  have R5 := R4.setV (i := i) (Dv.up s3 _ _ d1)
  have R6 := R5.setO (i := j) f4 (show Own X.K G3 H3 r (.lst []) from ⟨[], e4, .nil⟩) (noOwn_setV no4)
  exact R6.setV d3
/-! ### {k: v for target in iter} -/
def keyOf : List D → Option (List Key)
  | [] => some []
  | .int i :: ds => (keyOf ds).map (.inl i :: ·)
  | .str z :: ds => (keyOf ds).map (.inr z :: ·)
  | _ :: _ => none
theorem keyOf_dv {K : PySem.W.Frag} {G : Hp} : ∀ {ds : List D} {k : List Key} {xs : List V}, keyOf ds = some k → DvAll K G xs ds → xs = k.map kV
  | [], _, _, e, h => by cases e; cases h; rfl
  | .int i :: ds, _, _, e, h => by
    obtain ⟨k, e2, rfl⟩ := Option.map_eq_some_iff.mp (show (keyOf ds).map _ = _ from e)
    cases h with | cons h1 h2 => cases h1; rw [List.map_cons, ← keyOf_dv e2 h2]; rfl
  | .str i :: ds, _, _, e, h => by
    obtain ⟨k, e2, rfl⟩ := Option.map_eq_some_iff.mp (show (keyOf ds).map _ = _ from e)
    cases h with | cons h1 h2 => cases h1; rw [List.map_cons, ← keyOf_dv e2 h2]; rfl
/-- k stands with d from now on -/
def putD (kvs : List (List Key × D)) (k : List Key) (d : D) : List (List Key × D) :=
  if (kvs.any fun kv => decide (kv.1 = k)) = true then kvs.map (fun kv => if kv.1 = k then (kv.1, d) else kv) else kvs ++ [(k, d)]
inductive KvD (K : PySem.W.Frag) (G : Hp) : List (List Key × V) → List (List Key × D) → Prop
  | nil : KvD K G [] []
  | cons {k : List Key} {v : V} {d : D} {r : List (List Key × V)} {t : List (List Key × D)} : Dv K G v d → KvD K G r t → KvD K G ((k, v) :: r) ((k, d) :: t)
theorem KvD.keys {K : PySem.W.Frag} {G : Hp} : ∀ {r : List (List Key × V)} {t : List (List Key × D)}, KvD K G r t → r.map (·.1) = t.map (·.1)
  | _, _, .nil => rfl
  | _, _, .cons _ h => by rw [List.map_cons, List.map_cons, h.keys]
theorem KvD.vals {K : PySem.W.Frag} {G : Hp} : ∀ {r : List (List Key × V)} {t : List (List Key × D)}, KvD K G r t → DvAll K G (r.map (·.2)) (t.map (·.2))
  | _, _, .nil => .nil
  | _, _, .cons h t => .cons h t.vals
theorem KvD.up {K : PySem.W.Frag} {G G' : Hp} (e : Same G G') : ∀ {r : List (List Key × V)} {t : List (List Key × D)}, KvD K G r t → KvD K G' r t
  | _, _, .nil => .nil
  | _, _, .cons h t => .cons (Dv.up e _ _ h) (t.up e)
theorem KvD.len {K : PySem.W.Frag} {G : Hp} {r : List (List Key × V)} {t : List (List Key × D)} (h : KvD K G r t) : r.length = t.length := by
  have := congrArg List.length h.keys
  simpa using this
theorem KvD.put {K : PySem.W.Frag} {G : Hp} {r : List (List Key × V)} {t : List (List Key × D)} {k : List Key} {v : V} {d : D} (h : KvD K G r t) (hv : Dv K G v d) : KvD K G (putK r k v) (putD t k d) := by
  have ea : (r.any fun kv => decide (kv.1 = k)) = t.any fun kv => decide (kv.1 = k) := by
    induction h with
    | nil => rfl
    | cons h t ih => rw [List.any_cons, List.any_cons, ih]
  have em : KvD K G (r.map fun kv => if kv.1 = k then (kv.1, v) else kv) (t.map fun kv => if kv.1 = k then (kv.1, d) else kv) := by
    clear ea
    induction h with
    | nil => exact .nil
    | @cons k' v' d' r t h _ ih =>
      rw [List.map_cons, List.map_cons]
      by_cases e : k' = k
      · rw [if_pos e, if_pos e]; exact .cons hv ih
      · rw [if_neg e, if_neg e]; exact .cons h ih
  have ec : KvD K G (r ++ [(k, v)]) (t ++ [(k, d)]) := by
    clear ea em
    induction h with
    | nil => exact .cons hv .nil
    | cons h _ ih => exact .cons h ih
  unfold putK putD
  rw [ea]
  by_cases z : (t.any fun kv => decide (kv.1 = k)) = true
  · rw [if_pos z, if_pos z]; exact em
  · rw [if_neg z, if_neg z]; exact ec
def dcL (vs : List Nat) (g : DGT) (tk tv : DT) (P : D → Ds → Prop) : List D → List (List Key × D) → Ds → Prop
  | [], acc, S => P (.dt (acc.map (·.1)) (acc.map (·.2))) S
  | d :: ds, acc, S => g d ⟨wipeD S.ρ vs, S.dr⟩ fun S2 => tk S2 fun x S3 => tv S3 fun y S4 => ∃ es k, x = .tup es ∧ keyOf es = some k ∧ acc.length < sizeLine ∧ dcL vs g tk tv P ds (putD acc k y) ⟨wipeD S4.ρ vs, S4.dr⟩
def dDc (ti : DIT) (g : DGT) (tk tv : DT) (vs : List Nat) : DT := fun S P => ti S fun ds S1 => dcL vs g tk tv (fun d S2 => P d ⟨Dl.back S1.ρ S2.ρ vs, S2.dr⟩) ds [] ⟨wipeD S1.ρ vs, S1.dr⟩
theorem lift_dc {own is : List Nat} {wi : DIT} {g : DGT} {tk tv : DT} (hsub : ∀ i ∈ is, i ∈ own) (σ : L2.St) (H : Hp) (Q : VK) (h : liftO W X.K (dDc wi g tk tv own) σ H Q) :
    tDcP (.dT []) (liftI W X.K wi) (anyG kk X.K is g) (anyT kk X.K dYes) (anyE kk X.K tk) (anyE kk X.K tv) own σ H Q := by
  obtain ⟨G, S, P, R, p, q⟩ := h
  refine ⟨G, S, _, R, p, fun ds S1 p1 H1 G1 s1 R1 J Gd Y wk gd yl => fun D hD => ?_⟩
  obtain ⟨R1', f1, no1⟩ := R1.fresh (u := .dT []) hD
  have hDk : D ∉ kk.dk := f1.d
  refine ⟨ds.length, fun i H2 => ∃ G2 S2 acc kvs, Same G1 G2 ∧ Rep W X.K G2 H2 σ S2 ∧ Frsh W G2 D ∧ NoOwn σ S2 D ∧ H2 D = some (.dT kvs) ∧ KvD X.K G2 kvs acc ∧ dcL own g tk tv (fun d S2 => P d ⟨Dl.back S1.ρ S2.ρ own, S2.dr⟩) (ds.drop i) acc S2,
    ⟨G1, _, [], [], Same.refl _, R1'.off (Off.refl' own σ), f1, fun i d q => no1 i d (getS_wipe q).2, upd_same, .nil, by rw [List.drop_zero]; exact p1⟩, ?_, ?_⟩
  · rintro H2 ⟨G2, S2, acc, kvs, s2, R2, f2, no2, e2, dv2, p2⟩
    rw [List.drop_length] at p2
    exact ⟨wk.stops H2 (gd H2 (s2.trans R2.gh)), q _ _ p2 D H2 G2 (s1.trans s2) (Rep.back R1 s2 R2 own) f2 ⟨kvs, e2, dv2.keys, dv2.vals⟩ fun i d e => no2 i d (getS_back e)⟩
  · rintro i H2 hi ⟨G2, S2, acc, kvs, s2, R2, f2, no2, e2, dv2, p2⟩
    have hg2 := gd H2 (s2.trans R2.gh)
    refine ⟨wk.goes i H2 hi hg2, fun x H3 y0 => ?_⟩
    have y := wk.yields i H2 x H3 hi hg2 y0
    obtain ⟨d, ed, co⟩ := yl i H2 x H3 hi y
    have nB : W.B D = none := R2.bg.free f2.g
    obtain ⟨G3, s3, R3, d3⟩ := co (W.plus D (.dT kvs) hDk) G2 σ S2 s2 (R2.plus f2 no2 e2)
    rw [drop_cons ed] at p2
    refine ⟨W.plus D (.dT kvs) hDk, G3, _, d, _, R3.off (off_wipe σ own), d3, p2, fun S4 p4 σ4 H4 G4 s4 R4 o4 => ?_⟩
    have o4' : Off own (wipe σ own) σ4 := off_sub o4 hsub
    have w4 : wipe σ4 own = wipe σ own := by
      rw [wipe_off o4', wipe_off (off_wipe' σ own)]
    have offσ : Off own σ σ4 := ⟨by rw [o4'.1, wipe_length], fun j hj => (o4'.2 j hj).trans (wipe_get hj)⟩
    refine ⟨w4, W.plus D (.dT kvs) hDk, G4, S4, (fun b S5 => b = true ∧ tk S5 fun x S3 => tv S3 fun y S4 => ∃ es k, x = .tup es ∧ keyOf es = some k ∧ acc.length < sizeLine ∧ dcL own g tk tv (fun d S2 => P d ⟨Dl.back S1.ρ S2.ρ own, S2.dr⟩) (ds.drop (i + 1)) (putD acc k y) ⟨wipeD S4.ρ own, S4.dr⟩), R4, ⟨rfl, p4⟩, fun b S5 ⟨eb, p5⟩ H5 G5 s5 R5 => ?_⟩
    have sG : Same G2 G5 := s3.trans (s4.trans s5)
    cases b with
    | true =>
      refine iteT ?_
      refine ⟨W.plus D (.dT kvs) hDk, G5, S5, _, R5, p5, fun dy S6 p6 yv H6 G6 s6 R6 d6 => ?_⟩
      refine ⟨W.plus D (.dT kvs) hDk, G6, S6, _, R6, p6, fun dz S7 ⟨es, k, edy, ek, hz, p7⟩ zv H7 G7 s7 R7 d7 => ?_⟩
      subst edy
      obtain ⟨R7', f7, no7, e7⟩ := Rep.less f2.f nB (R7.off offσ)
      cases d6 with
      | @tup b xs _ h1 h2 =>
        have ex := keyOf_dv ek h2
        subst ex
        have sG7 := sG.trans (s6.trans s7)
        refine ⟨_, DPut.t e7 (R7.gh _ _ (s7 _ _ h1)) (by rw [dv2.len]; exact hz), G7, _, putD acc k dz, putK kvs k zv, s2.trans sG7, R7'.wrD f7 no7, f7, no7, upd_same, (dv2.up sG7).put d7, p7⟩
    | false =>
      cases eb
/-- {k: v for target in iter} -/
theorem do_dc {kx vx tg iter : Expr} {scope : Scope} {own : List (Str × Nat)} {is : List Nat} {wi : DIT} {g : DGT} {tk tv : DT} (room : X.A.units < cLine) (hc : X.calm = true) (hN : X.N.Nodup) (hi : DI X W tg iter wi) (ok : BlkOk X.N X.env.scope scope own)
    (hg : ∀ (s : Shared) (H : Hp) (C : Addr) (cl : List (Str × Addr)) (fp : List Addr) (W' : Wd kk), DG (X.blk s H scope (compEnvC scope cl C X.env) fp) W' tg is g)
    (hk : ∀ (s : Shared) (H : Hp) (C : Addr) (cl : List (Str × Addr)) (fp : List Addr) (W' : Wd kk), DE (X.blk s H scope (compEnvC scope cl C X.env) fp) W' kx tk)
    (hv : ∀ (s : Shared) (H : Hp) (C : Addr) (cl : List (Str × Addr)) (fp : List Addr) (W' : Wd kk), DE (X.blk s H scope (compEnvC scope cl C X.env) fp) W' vx tv) (hsub : ∀ i ∈ is, i ∈ own.map (·.2) := by decide) (hs : ∀ x, foldedSetIterable iter X.env x = pure x := by intro _; rfl) :
    DO X W (.DictComp kx vx [⟨tg, iter, [], 0⟩] scope pos) (dDc wi g tk tv (own.map (·.2))) :=
  pe_imp (pe_dcP (.inr rfl) room hc hN hi ok (fun s H C cl fp => pg_anyG (hg s H C cl fp)) (fun s H C cl fp => pt_anyT fun W' => dts_nil) (fun s H C cl fp => pe_anyE (hk s H C cl fp)) (fun s H C cl fp => pe_anyE (hv s H C cl fp)) hs) fun σ H Q h => lift_dc hsub σ H Q h
end
end Dl
namespace Dl
open PySem PySem.Spec PyProof.Rows L2 Sw Ss
/-! ### instances of an own class -/
structure InsC (K : PySem.W.Frag) (C : Addr) : Prop where
  cl : Cls K C
  ha : PySem.W.findIn K (.ref C) "__class__" = some (some (.builtin "object.__class__"))
  hn : PySem.W.specialIn K (.builtin "object.__class__") "__get__" = some (some (.builtin "getset_descriptor.__get__"))
  htk : PySem.W.takesIn K (.builtin "object.__class__") = some true
  hm : PySem.W.mroIn K C (.type "object") = some true
abbrev tyNames : List String := ["NoneType", "bool", "int", "str", "list", "tuple", "dict"]
theorem tyD_mem {d : D} {n : String} (h : tyD d = some n) : n ∈ tyNames := by
  cases d <;> cases h <;> decide
theorem tyx_ins {K : PySem.W.Frag} {H : Hp} {a C dx : Addr} {fs : List (Str × V)} (c : InsC K C) (e : H a = some (.ins C dx fs)) : TyX K H (.ref a) (.ref C) := .base (.ins e c.cl c.ha c.hn c.htk c.hm)
/-- a kind that == and isinstance take: built-in data, or an instance of C -/
def tyOk (C : Addr) : D → Prop
  | .at _ => False
  | .ins C' _ _ => C' = C
  | _ => True
def isC : D → Bool
  | .ins _ _ _ => true
  | _ => false
theorem ty_of {K : PySem.W.Frag} {G H : Hp} {C : Addr} {v : V} {d : D} (c : InsC K C) (k : tyOk C d) (g : Same G H) (h : Dv K G v d) : (isC d = true ∧ TyX K H v (.ref C)) ∨ (isC d = false ∧ ∃ n, n ∈ tyNames ∧ TyX K H v (.type n)) := by
  cases d with
  | ins C' ns ds =>
    cases (show C' = C from k)
    cases h with
    | ins h1 h2 => exact .inl ⟨rfl, tyx_ins c (g _ _ h1)⟩
  | «at» _ => exact k.elim
  | non => exact .inr ⟨rfl, _, tyD_mem (d := .non) rfl, tyX_of (d := .non) rfl g h⟩
  | bl b => exact .inr ⟨rfl, _, tyD_mem (d := .bl b) rfl, tyX_of (d := .bl b) rfl g h⟩
  | int b => exact .inr ⟨rfl, _, tyD_mem (d := .int b) rfl, tyX_of (d := .int b) rfl g h⟩
  | str b => exact .inr ⟨rfl, _, tyD_mem (d := .str b) rfl, tyX_of (d := .str b) rfl g h⟩
  | lst b => exact .inr ⟨rfl, _, tyD_mem (d := .lst b) rfl, tyX_of (d := .lst b) rfl g h⟩
  | tup b => exact .inr ⟨rfl, _, tyD_mem (d := .tup b) rfl, tyX_of (d := .tup b) rfl g h⟩
  | dk b b' => exact .inr ⟨rfl, _, tyD_mem (d := .dk b b') rfl, tyX_of (d := .dk b b') rfl g h⟩
  | dt b b' => exact .inr ⟨rfl, _, tyD_mem (d := .dt b b') rfl, tyX_of (d := .dt b b') rfl g h⟩
section
variable {kk : Dek} {X : Cx} {W : Wd kk} {a b c e o : Expr} {es : List Expr} {ta tb tc te : DT} {t : DTA} {C f : Addr} {fd : FuncData} {ps : List Str} {sp : DSp} {l : Nat} {x m : Str} {p p2 q pos apos : Pos}
/-! ### isinstance(x, C) -/
def dIsiC (C : Addr) (t : DT) : DT := fun S P => t S fun x S1 => tyOk C x ∧ P (.bl (isC x)) S1
theorem de_isC (I : InsC X.K C) (yes : PySem.W.kitOne X.K (.ref C) (.ref C) = some true) (no : ∀ n ∈ tyNames, PySem.W.kitOne X.K (.type n) (.ref C) = some false) (hg : Gl X "isinstance") (hm : X.mg "isinstance" = none) (he : DE X W e te) (ht : PE X c (tC (.ref C)))
    (hs : starEach [e, c] X.env = (false, eval e X.env) :: starEach [c] X.env := by rfl) (hs2 : starEach [c] X.env = (false, eval c X.env) :: starEach [] X.env := by rfl)
    (hpl : (backTo pos (starEach [c] X.env)).any (·.1) = false := by rfl) : DE X W (.Call (.Name "isinstance" p) [e, c] [] pos) (dIsiC C te) := by
  refine pe_imp (pe_callB call_isi hg hm boot_isinstance (pa_cons he (pa_cons ht pa_nil hs2) hs) (by decide) (by decide) hs hpl) fun σ H Q ⟨G, S, P, R, p, q⟩ => ?_
  refine ⟨G, S, _, R, p, fun x S1 ⟨k, p1⟩ v H1 G1 s1 R1 d1 => ?_⟩
  show rIsi X.K [v, .ref C] H1 Q
  rcases ty_of I k R1.gh d1 with ⟨ec, ty⟩ | ⟨ec, n, hn, ty⟩
  · exact ⟨v, .ref C, _, _, true, rfl, .own C, ty, yes, by rw [← ec]; exact q _ S1 p1 _ H1 G1 s1 R1 (.bl _)⟩
  · exact ⟨v, .ref C, _, _, false, rfl, .own C, ty, no n hn, by rw [← ec]; exact q _ S1 p1 _ H1 G1 s1 R1 (.bl _)⟩
/-! ### x.f -/
def lookD : List Str → List D → Str → Option D
  | n :: ns, d :: ds, f => if f == n then some d else lookD ns ds f
  | _, _, _ => none
theorem look_dv {K : PySem.W.Frag} {G : Hp} {f : Str} {d : D} : ∀ {fs : List (Str × V)} {ds : List D}, DvAll K G (fs.map (·.2)) ds → lookD (fs.map (·.1)) ds f = some d → ∃ v, fs.lookup f = some v ∧ Dv K G v d
  | [], _, _, e => by cases ‹List D› <;> cases e
  | (n, v) :: fs, _, h, e => by
    cases h with
    | @cons _ _ d' ds h1 h2 =>
      have e : (if f == n then some d' else lookD (fs.map (·.1)) ds f) = some d := e
      rw [List.lookup_cons]
      by_cases z : (f == n) = true
      · rw [if_pos z] at e; cases e; rw [z]; exact ⟨v, rfl, h1⟩
      · rw [if_neg z] at e; rw [show (f == n) = false from by simpa using z]; exact look_dv h2 e
def dFld (K : PySem.W.Frag) (C : Addr) (f : Str) (t : DT) : DT := fun S P => t S fun x S1 => ∃ ns ds d, x = .ins C ns ds ∧ lookD ns ds f = some d ∧ P d S1
theorem de_fld {f : Str} (c : Cls X.K C) (n : NoAttr X.K C f) (he : DE X W e te) (hb : attributeBase e f X.env (eval e X.env) = eval e X.env := by rfl) : DE X W (.Attribute e f pos) (dFld X.K C f te) := by
  refine pe_imp (pe_fld he hb) fun σ H Q ⟨G, S, P, R, p, q⟩ => ?_
  refine ⟨G, S, _, R, p, fun x S1 ⟨ns, ds, d, ex, el, p1⟩ v H1 G1 s1 R1 d1 => ?_⟩
  subst ex
  cases d1 with
  | @ins b _ dx fs _ h1 h2 =>
    obtain ⟨w, ew, dw⟩ := look_dv h2 el
    exact ⟨b, C, dx, fs, w, rfl, R1.gh _ _ h1, c, n, ew, q _ S1 p1 _ H1 G1 s1 R1 dw⟩
/-! ### self.f = x, self owned -/
def putN (f : Str) (d : D) : List Str → List D → List Str × List D
  | n :: ns, y :: ds => if n = f then (n :: ns, d :: ds) else ((n :: (putN f d ns ds).1), (y :: (putN f d ns ds).2))
  | ns, ds => ([f], [d])
theorem putN_dv {K : PySem.W.Frag} {G : Hp} {f : Str} {d : D} {v : V} (hv : Dv K G v d) : ∀ {fs : List (Str × V)} {ds : List D}, DvAll K G (fs.map (·.2)) ds → (putF f v fs).map (·.1) = (putN f d (fs.map (·.1)) ds).1 ∧ DvAll K G ((putF f v fs).map (·.2)) (putN f d (fs.map (·.1)) ds).2
  | [], _, h => by cases h; exact ⟨rfl, .cons hv .nil⟩
  | (n, w) :: fs, _, h => by
    cases h with
    | @cons _ _ d' ds h1 h2 =>
      obtain ⟨i1, i2⟩ := putN_dv hv h2
      show ((if n = f then (n, v) :: fs else (n, w) :: putF f v fs).map (·.1)) = (if n = f then (n :: fs.map (·.1), d :: ds) else (n :: (putN f d (fs.map (·.1)) ds).1, d' :: (putN f d (fs.map (·.1)) ds).2)).1 ∧
        DvAll K G ((if n = f then (n, v) :: fs else (n, w) :: putF f v fs).map (·.2)) (if n = f then (n :: fs.map (·.1), d :: ds) else (n :: (putN f d (fs.map (·.1)) ds).1, d' :: (putN f d (fs.map (·.1)) ds).2)).2
      by_cases z : n = f
      · rw [if_pos z, if_pos z]; exact ⟨rfl, .cons hv h2⟩
      · rw [if_neg z, if_neg z]; exact ⟨by rw [List.map_cons, i1], .cons h1 i2⟩
def dSFld (i : Nat) (C : Addr) (f : Str) (t : DT) : DST := fun E S => t S fun d S1 => ∃ ns ds, getS S1.ρ i = some (.o (.ins C ns ds)) ∧ ns.length < 1000 ∧ E.nx (putO S1 i (.ins C (putN f d ns ds).1 (putN f d ns ds).2))
theorem ds_fld {i : Nat} {y f : Str} (c : Cls X.K C) (n : NoAttr X.K C f) (hn : PE X (.Name y p) (tVar i)) (he : DE X W e te) (hs : swapsWith e (some (.Attribute (.Name y p) f apos)) pos.line X.env = pure false := by rfl) : DS X W (.Assign [.Attribute (.Name y p) f apos] e pos) (dSFld i C f te) := by
  refine ps_imp (ps_fld hn he hs) fun N σ H ⟨G, S, E, R, p, ok⟩ => ?_
  refine ⟨G, S, _, R, p, fun d S1 ⟨ns, ds, eg, hl, p1⟩ v H1 G1 s1 R1 d1 => ?_⟩
  obtain ⟨w, ew, b, rfl, fr, dx, fs, e1, e2, e3⟩ := R1.sl i _ eg
  subst e2
  obtain ⟨i1, i2⟩ := putN_dv (f := f) d1 e3
  refine ⟨_, ew, b, C, dx, fs, rfl, e1, c, n, by rw [List.length_map] at hl; exact hl, ok.nx _ _ _ G1 s1 p1 ?_⟩
  exact R1.wrO eg ew fr ⟨dx, _, upd_same, i1, i2⟩
/-! ### o.m(..) -/
def dMeth (C : Addr) (m : Str) (sp : DSp) (ta : DT) (t : DTA) : DT := fun S P => ta S fun x S1 => (∃ ns ds, x = .ins C ns ds ∧ m ∉ ns) ∧ t S1 fun es S2 => sp (x :: es) S2.dr fun d n => P d ⟨S2.ρ, n⟩
theorem de_meth {pl : Sem Bool} (he : DE X W o ta) (c : Cls X.K C) (hm : Meth X.K C m f) (F : FnK X.prog X.w X.K X.mg X.base l f fd ps kk sp) (hr : Room l X.A) (hb : Binds X.K fd ps []) (ha : DA X W (e :: es) t)
    (hst : starEach (e :: es) X.env = (false, eval e X.env) :: starEach es X.env := by rfl) (hpl : (backTo pos (starEach es X.env)).any (·.1) = false := by rfl)
    (ht : eval (.Call (.Attribute o m apos) (e :: es) [] pos) X.env = (do
      let ov ← eval o X.env
      standAt apos.atName
      let (f, first) ← holding [ov] (getMethod ov m pl)
      callWith pos f first (backTo pos (starEach (e :: es) X.env)) (backToKw pos (keywordEach [] X.env))) := by rfl) :
    DE X W (.Call (.Attribute o m apos) (e :: es) [] pos) (dMeth C m sp ta t) := by
  refine pe_imp (pe_meth (E := E0) he c hm F hr hb .nil pass0 ha hst hpl ht) fun σ H Q ⟨G, S, P, R, p, q⟩ => ?_
  refine ⟨G, S, _, R, p, fun x S1 ⟨⟨ns, ds, ex, hn⟩, p1⟩ v H1 G1 s1 R1 d1 => ?_⟩
  subst ex
  cases d1 with
  | @ins b _ dx fs _ h1 h2 =>
    refine ⟨b, dx, fs, rfl, R1.gh _ _ h1, ?_, G1, S1, _, R1, p1, fun es' S2 p2 vs H2 G2 s2 R2 dv => ?_⟩
    · rw [List.lookup_eq_none_iff]
      intro y hy
      exact bne_iff_ne.mpr fun z => hn (List.mem_map.mpr ⟨y, hy, z.symm⟩)
    · show spL X.K kk sp (V.ref b :: (vs ++ [])) H2 Q E0
      rw [List.append_nil]
      exact after_call R2 (.cons (Dv.up s2 _ _ (.ins h1 h2)) dv) p2 fun d S3 p3 v H3 G3 s3 R3 dv3 => q d S3 p3 v H3 G3 ((s1.trans s2).trans s3) R3 dv3
/-! ### x == y by an own def -/
theorem op_ownEq {sp : Sp} (F : FnOk X.prog X.w X.K X.mg X.base CX0 l f fd ps sp) (hr : Room l X.A) (hs : PySem.W.findIn X.K (.ref C) "__eq__" = some (some (.ref f))) (hf : PySem.W.isFn X.K (.ref f) = true) (hb : Binds X.K fd ps []) :
    OpR X (compareOp .Eq) (fun x y H Q => ∃ a dx fs t, x = .ref a ∧ H a = some (.ins C dx fs) ∧ TyX X.K H y t ∧ PySem.W.notFirst X.K C t = true ∧ sp [x, y] H Q E0) := by
  intro pins s σ H x y v u Q I rx ry ⟨a, dx, fs, t, ex, ha, ty, hn, q⟩
  subst ex
  cases (show v = Value.ref a from rx)
  obtain ⟨mA, J, _⟩ := ins_get I.hok ha
  obtain ⟨od, J, _⟩ := J.look
  obtain ⟨Z, kx, pz, _⟩ := kit_of I ry ty
  obtain ⟨m, hF⟩ := I.fr
  refine PySem.W.cmp_K (op := .Eq) (tb := t) hr.units0 hF I.ok.mod.kin J (kx.ty _ _ I.kIn pz) hn hs hf ?_
  refine wpAny_mono (run_fn (us := [.ref a, u]) (vs := [.ref a, y]) (dvs := []) (E := E0) F hr hb .nil pass0 I (.cons rfl (.cons ry .nil)) (by rw [List.append_nil]; exact q)) (fun w s' z => ?_) fun _ _ x => x
  obtain ⟨z', H', I', rz, qz⟩ := z
  exact SlX.cmpback rz ⟨z', H', I', rz, qz⟩
def dOwnEq (C : Addr) (sp : DSp) (ta tb : DT) : DT := fun S P => ta S fun x S1 => tb S1 fun y S2 => (∃ ns ds, x = .ins C ns ds) ∧ tyOk C y ∧ sp [x, y] S2.dr fun d n => P d ⟨S2.ρ, n⟩
theorem lift_own {r : R2} (I : InsC X.K C) (no : ∀ n ∈ tyNames, PySem.W.notFirst X.K C (.type n) = true) (er : r = fun x y H Q => ∃ a dx fs t, x = .ref a ∧ H a = some (.ins C dx fs) ∧ TyX X.K H y t ∧ PySem.W.notFirst X.K C t = true ∧ spL X.K kk sp [x, y] H Q E0) (σ : L2.St) (H : Hp) (Q : VK) (h : lift W X.K (dOwnEq C sp ta tb) σ H Q) : tOp r (lift W X.K ta) (lift W X.K tb) σ H Q := by
  subst er
  obtain ⟨G, S, P, R, p, q⟩ := h
  refine ⟨G, S, _, R, p, fun x S1 p1 v H1 G1 s1 R1 d1 => ⟨G1, S1, _, R1, p1, fun y S2 ⟨⟨ns, ds, ex⟩, k, p2⟩ w H2 G2 s2 R2 d2 => ?_⟩⟩
  subst ex
  have d1' := Dv.up s2 _ _ d1
  have fin : spL X.K kk sp [v, w] H2 Q E0 := after_call R2 (.cons d1' (.cons d2 .nil)) p2 fun d S3 p3 u H3 G3 s3 R3 dv3 => q d S3 p3 u H3 G3 ((s1.trans s2).trans s3) R3 dv3
  cases d1' with
  | @ins b _ dx fs _ h1 h2 =>
    rcases ty_of I k R2.gh d2 with ⟨_, ty⟩ | ⟨_, n, hn, ty⟩
    · exact ⟨b, dx, fs, _, rfl, R2.gh _ _ h1, ty, by simp [PySem.W.notFirst], fin⟩
    · exact ⟨b, dx, fs, _, rfl, R2.gh _ _ h1, ty, no n hn, fin⟩
theorem de_ownEq (I : InsC X.K C) (F : FnK X.prog X.w X.K X.mg X.base l f fd ps kk sp) (hr : Room l X.A) (hs : PySem.W.findIn X.K (.ref C) "__eq__" = some (some (.ref f))) (hf : PySem.W.isFn X.K (.ref f) = true) (hb : Binds X.K fd ps [])
    (no : ∀ n ∈ tyNames, PySem.W.notFirst X.K C (.type n) = true) (ha : DE X W a ta) (hb2 : DE X W b tb) : DE X W (.Compare a [.Eq] [b] pos) (dOwnEq C sp ta tb) :=
  pe_imp (pe_cmpR (op_ownEq F hr hs hf hb) ha hb2 (nobehind _ (by decide) (by decide))) fun σ H Q h => lift_own I no rfl σ H Q h
theorem dt_ownEq (I : InsC X.K C) (F : FnK X.prog X.w X.K X.mg X.base l f fd ps kk sp) (hr : Room l X.A) (hs : PySem.W.findIn X.K (.ref C) "__eq__" = some (some (.ref f))) (hf : PySem.W.isFn X.K (.ref f) = true) (hb : Binds X.K fd ps [])
    (no : ∀ n ∈ tyNames, PySem.W.notFirst X.K C (.type n) = true) (ha : DE X W a ta) (hb2 : DE X W b tb) : DTe X W (.Compare a [.Eq] [b] pos) (dBool (dOwnEq C sp ta tb)) :=
  pt_imp (pt_cmpR (op_ownEq F hr hs hf hb) ha hb2 (nobehind _ (by decide) (by decide))) fun σ H Q h => lift_own I no rfl σ H _ (lift_bool σ H Q h)
/-! ### d.get((..)) -/
def getK (acc : List (List Key × D)) (k : List Key) : Option D := (acc.find? fun p => decide (p.1 = k)).map (·.2)
theorem kvd_of {K : PySem.W.Frag} {G : Hp} : ∀ {kvs : List (List Key × V)} {acc : List (List Key × D)}, acc.map (·.1) = kvs.map (·.1) → DvAll K G (kvs.map (·.2)) (acc.map (·.2)) → KvD K G kvs acc
  | [], [], _, _ => .nil
  | [], _ :: _, e, _ => by cases e
  | _ :: _, [], e, _ => by cases e
  | (k, v) :: kvs, (k', d) :: acc, e, h => by
    rw [List.map_cons, List.map_cons] at e
    injection e with e1 e2
    have e1 : k' = k := e1
    subst e1
    cases h with | cons h1 h2 => exact .cons h1 (kvd_of e2 h2)
theorem KvD.get {K : PySem.W.Frag} {G : Hp} {k : List Key} : ∀ {kvs : List (List Key × V)} {acc : List (List Key × D)}, KvD K G kvs acc → Dv K G ((valV kvs k).getD .non) ((getK acc k).getD .non)
  | _, _, .nil => .non
  | _, _, @KvD.cons _ _ k' v d r t h1 h2 => by
    by_cases e : k' = k
    · have a1 : valV ((k', v) :: r) k = some v := valV_pos e
      have a2 : getK ((k', d) :: t) k = some d := by unfold getK; rw [List.find?_cons]; simp [e]
      rw [a1, a2]; exact h1
    · have a1 : valV ((k', v) :: r) k = valV r k := valV_neg e
      have a2 : getK ((k', d) :: t) k = getK t k := by unfold getK; rw [List.find?_cons]; simp [e]
      rw [a1, a2]; exact h2.get
def keyON : List D → Option (List (Option Key))
  | [] => some []
  | .int i :: ds => (keyON ds).map (some (.inl i) :: ·)
  | .str z :: ds => (keyON ds).map (some (.inr z) :: ·)
  | .non :: ds => (keyON ds).map (none :: ·)
  | _ :: _ => none
theorem keyON_dv {K : PySem.W.Frag} {G : Hp} : ∀ {ds : List D} {k : List (Option Key)} {xs : List V}, keyON ds = some k → DvAll K G xs ds → xs = k.map oV
  | [], _, _, e, h => by cases e; cases h; rfl
  | .int i :: ds, _, _, e, h => by
    obtain ⟨k, e2, rfl⟩ := Option.map_eq_some_iff.mp (show (keyON ds).map _ = _ from e)
    cases h with | cons h1 h2 => cases h1; rw [List.map_cons, ← keyON_dv e2 h2]; rfl
  | .str i :: ds, _, _, e, h => by
    obtain ⟨k, e2, rfl⟩ := Option.map_eq_some_iff.mp (show (keyON ds).map _ = _ from e)
    cases h with | cons h1 h2 => cases h1; rw [List.map_cons, ← keyON_dv e2 h2]; rfl
  | .non :: ds, _, _, e, h => by
    obtain ⟨k, e2, rfl⟩ := Option.map_eq_some_iff.mp (show (keyON ds).map _ = _ from e)
    cases h with | cons h1 h2 => cases h1; rw [List.map_cons, ← keyON_dv e2 h2]; rfl
def dGet (td ty : DT) : DT := fun S P => td S fun x S1 => ∃ acc : List (List Key × D), x = .dt (acc.map (·.1)) (acc.map (·.2)) ∧ ty S1 fun y S2 => ∃ es, y = .tup es ∧ ((∃ k, keyOf es = some k ∧ P ((getK acc k).getD .non) S2) ∨ ∃ k, keyON es = some k ∧ none ∈ k ∧ P .non S2)
theorem de_get (hu : X.A.units + 64 < cLine) (ho : DE X W o ta) (he : DE X W e tb) (m : M1 X o "get" apos e pos) : DE X W (.Call (.Attribute o "get" apos) [e] [] pos) (dGet ta tb) := by
  refine pe_imp (pe_getN (by omega) ho he m) fun σ H Q ⟨G, S, P, R, p, q⟩ => ?_
  refine ⟨G, S, _, R, p, fun x S1 ⟨acc, ex, p1⟩ v H1 G1 s1 R1 d1 => ?_⟩
  subst ex
  generalize hks : acc.map (·.1) = ks at d1
  cases d1 with
  | @dt b kvs _ h1 h2 =>
    refine ⟨b, kvs, rfl, R1.gh _ _ h1, G1, S1, _, R1, p1, fun y S2 ⟨es, ey, p2⟩ w H2 G2 s2 R2 d2 => ?_⟩
    subst ey
    refine ⟨R2.gh _ _ (s2 _ _ h1), ?_⟩
    cases d2 with
    | @tup c xs _ k1 k2 =>
      refine ⟨c, rfl, ?_⟩
      rcases p2 with ⟨k, ek, p2⟩ | ⟨k, ek, hn, p2⟩
      · have ex := keyOf_dv ek k2
        subst ex
        exact .inl ⟨k, R2.gh _ _ k1, q _ S2 p2 _ H2 G2 (s1.trans s2) R2 (Dv.up s2 _ _ (KvD.get (kvd_of hks h2)))⟩
      · have ex := keyON_dv ek k2
        subst ex
        exact .inr ⟨k, SqT.of (R2.gh _ _ k1), hn, q _ S2 p2 _ H2 G2 (s1.trans s2) R2 .non⟩
/-! ### name = [.. for ..], the name a local -/
theorem ds_setLc {i : Nat} {y : Str} {py spos : Pos} {elt tg iter : Expr} {ifs : List Expr} {scope : Scope} {own : List (Str × Nat)} {is : List Nat} {wi : DIT} {g : DGT} {tt : DTT} {te : DT} (hc : X.calm = true) (hN : X.N.Nodup) (hy : X.N[i]? = some y) (hyl : X.env.scope.names.lookup y = some .local)
    (hk : X.env.scope.kind = .function) (hl : (py.line == pos.line) = true) (hna : (scope.names.any fun (n, k) => n == y && (k == .local || k == .cell)) = false) (hi : DI X W tg iter wi) (ok : BlkOk X.N X.env.scope scope own)
    (hg : ∀ (s : Shared) (H : Hp) (C : Addr) (cl : List (Str × Addr)) (fp : List Addr) (W' : Wd kk), DG (X.blk s H scope (compEnvC scope cl C X.env) fp) W' tg is g)
    (ht : ∀ (s : Shared) (H : Hp) (C : Addr) (cl : List (Str × Addr)) (fp : List Addr) (W' : Wd kk), DTs (X.blk s H scope (compEnvC scope cl C X.env) fp) W' ifs tt)
    (he : ∀ (s : Shared) (H : Hp) (C : Addr) (cl : List (Str × Addr)) (fp : List Addr) (W' : Wd kk), DE (X.blk s H scope (compEnvC scope cl C X.env) fp) W' elt te) (hsub : ∀ i ∈ is, i ∈ own.map (·.2) := by decide) (hs : ∀ x, foldedSetIterable iter X.env x = pure x := by intro _; rfl) :
    DS X W (.Assign [.Name y py] (.ListComp elt [⟨tg, iter, ifs, 0⟩] scope pos) spos) (dSetO (dLc wi g tt te (own.map (·.2))) i) :=
  ps_imp (ps_setLc hc hN hy hyl (sw_true hk hyl hl hna) hi ok (fun s H C cl fp => pg_anyG (hg s H C cl fp)) (fun s H C cl fp => pt_anyT (ht s H C cl fp)) (fun s H C cl fp => pe_anyE (he s H C cl fp)) hs) fun N σ H ⟨G, S, E, R, h, ok⟩ =>
    lift_lc hsub σ H _ ⟨G, S, _, R, h, fun d S1 p1 a H1 G1 s1 R1 f o no => ok.nx _ _ H1 G1 s1 p1 (R1.setO f o no)⟩
/-! ### a, b, c = x, [], y, by way of a tuple -/
theorem ds_par3C {i j l : Nat} {x y z : Str} {px py pz pt pl : Pos} {kt k2 pt2} (hcm : X.calm = true) (hN : X.N.Nodup) (hi : X.N[i]? = some x) (hj : X.N[j]? = some y) (hl : X.N[l]? = some z)
    (hx : Loc X.env.scope x) (hy : Loc X.env.scope y) (hz : Loc X.env.scope z) (fx : X.fn x = true ∨ X.env.scope.names.lookup x = some .local) (fy : X.fn y = true ∨ X.env.scope.names.lookup y = some .local) (fz : X.fn z = true ∨ X.env.scope.names.lookup z = some .local) (ha : DE X W a ta) (hc : ∀ W' : Wd kk, DE X W' c tc)
    (hw : swappedStores [.Tuple [.Name x px, .Name y py, .Name z pz] kt pt] (.Tuple [a, .List [] pl, c] k2 pt2) X.env = pure none := by rfl)
    (hs : swapsWithSole [.Tuple [.Name x px, .Name y py, .Name z pz] kt pt] (.Tuple [a, .List [] pl, c] k2 pt2) pos.line X.env = pure false := by rfl)
    (h1 : starEach [a, .List [] pl, c] X.env = (false, eval a X.env) :: starEach [.List [] pl, c] X.env := by rfl) (h2 : starEach [.List [] pl, c] X.env = (false, eval (.List [] pl) X.env) :: starEach [c] X.env := by rfl) (h3 : starEach [c] X.env = (false, eval c X.env) :: starEach [] X.env := by rfl)
    (a1 : (assignEach [.Name x px, .Name y py, .Name z pz] X.env).map (·.2) = assign (.Name x px) X.env :: (assignEach [.Name y py, .Name z pz] X.env).map (·.2) := by rfl)
    (a2 : (assignEach [.Name y py, .Name z pz] X.env).map (·.2) = assign (.Name y py) X.env :: (assignEach [.Name z pz] X.env).map (·.2) := by rfl)
    (a3 : (assignEach [.Name z pz] X.env).map (·.2) = assign (.Name z pz) X.env :: (assignEach [] X.env).map (·.2) := by rfl)
    (hn : (assignEach [.Name x px, .Name y py, .Name z pz] X.env).length = 3 := by rfl) (hst : (assignEach [.Name x px, .Name y py, .Name z pz] X.env).findIdx? (·.1) = none := by rfl) :
    DS X W (.Assign [.Tuple [.Name x px, .Name y py, .Name z pz] kt pt] (.Tuple [a, .List [] pl, c] k2 pt2) pos) (dPar3 i j l ta tc) := by
  refine ps_imp (ps_asg (pe_tup (pa_cons ha (pa_cons (pe_lst pa_nil) (pa_cons (pe_anyE hc) pa_nil h3) h2) h1)) (pg_tup hcm (pgs_cons (pg_name hN hi hx fx) (pgs_cons (pg_name hN hj hy fy) (pgs_cons (pg_name hN hl hz fz) pgs_nil a3) a2) a1) hn hst) hs hw) fun N σ H ⟨G, S, E, R, p, ok⟩ => ?_
  refine ⟨G, S, _, R, p, fun x S1 p1 v H1 G1 s1 R1 d1 => ⟨Nat.zero_le _, fun r hr => ?_⟩⟩
  obtain ⟨R2, f, no⟩ := R1.fresh (u := .lst []) hr
  refine ⟨W.plus r (.lst []) f.d, G1, S1, _, R2.plus f no upd_same, p1, fun z S2 p2 w H3 G3 s3 R3 d3 => ⟨by show 3 ≤ sizeLine; decide, fun q hq => ?_⟩⟩
  obtain ⟨R4, f4, no4, e4⟩ := Rep.less f.f (R1.bg.free f.g) R3
  refine ⟨q, _, rfl, SqT.of upd_same, rfl, v, _, rfl, .ref r, _, rfl, w, _, rfl, rfl, ?_⟩
  have R5 := (R4.newO (o := .tup [v, .ref r, w]) hq).1
  have R6 := R5.setV (i := i) (Dv.up s3 _ _ d1)
  have eo : upd H3 q (.tup [v, .ref r, w]) r = some (.lst []) := by rw [upd_ne (ne_of_none e4 hq)]; exact e4
  have R7 := R6.setO (i := j) f4 (show Own X.K G3 _ r (.lst []) from ⟨[], eo, .nil⟩) (noOwn_setV no4)
  exact ok.nx _ _ _ G3 (s1.trans s3) p2 (R7.setV d3)
theorem dt_chain {op op' : CmpOp} {g g' : D → D → (D → Prop) → Prop} (ho : DOpB X W (compareOp op) g) (ho' : DOpB X W (compareOp op') g') (ha : DE X W a ta) (hb : DE X W b tb) (hc : DE X W c tc)
    (hm : lastMarks [op, op'] [b, c] = false := by with_unfolding_all rfl) : DTe X W (.Compare a [op, op'] [b, c] pos) (dBool (dChain g g' ta tb tc)) := by
  obtain ⟨r, o, k⟩ := ho
  obtain ⟨r', o', k'⟩ := ho'
  exact pt_imp (pt_chain o o' ha hb hc hm) fun σ H Q h => lift_chain k k' σ H _ (lift_bool σ H Q h)
end
end Dl
namespace Dl
open PySem PySem.Spec PyProof.Rows L2 Sw
/-! ### dicts: kept by key, any kind of key -/
def keyD : D → Option Key
  | .int i => some (.inl i)
  | .str z => some (.inr z)
  | _ => none
theorem keyD_dv {K : PySem.W.Frag} {G : Hp} {d : D} {k : Key} {v : V} (e : keyD d = some k) (h : Dv K G v d) : v = kV k := by
  cases d with
  | int i => cases e; cases h; rfl
  | str z => cases e; cases h; rfl
  | _ => cases e
section
variable {α : Type} [DecidableEq α]
def lookL : List α → List D → α → Option D
  | k' :: ks, d :: ds, k => if k' = k then some d else lookL ks ds k
  | _, _, _ => none
theorem lookL_dv {K : PySem.W.Frag} {G : Hp} {k : α} : ∀ {kvs : List (α × V)} {ds : List D}, DvAll K G (kvs.map (·.2)) ds → match lookL (kvs.map (·.1)) ds k with
    | some d => ∃ v, valV kvs k = some v ∧ Dv K G v d
    | none => valV kvs k = none
  | [], [], .nil => rfl
  | p :: kvs, d :: ds, .cons h t => by
    rw [List.map_cons, lookL]
    by_cases e : p.1 = k
    · rw [if_pos e, valV_pos e]; exact ⟨_, rfl, h⟩
    · rw [if_neg e, valV_neg e]; exact lookL_dv t
def putL (k : α) (d : D) : List α → List D → List D
  | k' :: ks, e :: ds => if k' = k then d :: putL k d ks ds else e :: putL k d ks ds
  | _, ds => ds
theorem putL_in {K : PySem.W.Frag} {G : Hp} {k : α} {d : D} {v : V} (hv : Dv K G v d) : ∀ {kvs : List (α × V)} {ds : List D}, DvAll K G (kvs.map (·.2)) ds →
    ((kvs.map fun kv => if kv.1 = k then (kv.1, v) else kv).map (·.1)) = kvs.map (·.1) ∧ DvAll K G ((kvs.map fun kv => if kv.1 = k then (kv.1, v) else kv).map (·.2)) (putL k d (kvs.map (·.1)) ds)
  | [], [], .nil => ⟨rfl, .nil⟩
  | p :: kvs, e :: ds, .cons h t => by
    obtain ⟨h1, h2⟩ := putL_in hv t
    by_cases q : p.1 = k
    · refine ⟨?_, ?_⟩
      · rw [List.map_cons, List.map_cons, h1, if_pos q]; rfl
      · rw [List.map_cons, List.map_cons, if_pos q, List.map_cons, putL, if_pos q]; exact .cons hv h2
    · refine ⟨?_, ?_⟩
      · rw [List.map_cons, List.map_cons, h1, if_neg q]; rfl
      · rw [List.map_cons, List.map_cons, if_neg q, List.map_cons, putL, if_neg q]; exact .cons h h2
/-- the keys and the values behind d[k] = v -/
def putKs (ks : List α) (k : α) : List α := if ks.any (fun x => decide (x = k)) = true then ks else ks ++ [k]
def putDs (ks : List α) (ds : List D) (k : α) (d : D) : List D := if ks.any (fun x => decide (x = k)) = true then putL k d ks ds else ds ++ [d]
theorem put_dv {K : PySem.W.Frag} {G : Hp} {k : α} {d : D} {v : V} (hv : Dv K G v d) {kvs : List (α × V)} {ds : List D} (h : DvAll K G (kvs.map (·.2)) ds) :
    (putK kvs k v).map (·.1) = putKs (kvs.map (·.1)) k ∧ DvAll K G ((putK kvs k v).map (·.2)) (putDs (kvs.map (·.1)) ds k d) := by
  have ea : (kvs.any fun kv => decide (kv.1 = k)) = (kvs.map (·.1)).any fun x => decide (x = k) := by rw [List.any_map]; rfl
  unfold putK putKs putDs
  rw [ea]
  by_cases q : ((kvs.map (·.1)).any fun x => decide (x = k)) = true
  · rw [if_pos q, if_pos q, if_pos q]
    exact putL_in hv h
  · rw [if_neg q, if_neg q, if_neg q]
    refine ⟨by rw [List.map_append]; rfl, ?_⟩
    rw [List.map_append]
    exact dva_app h (.cons hv .nil)
end
section
variable {X : Cx} {kk : Dek} {W : Wd kk} {o a b e f i : Expr} {ta tb te tf td ty : DT} {pos apos pos' p1 : Pos}
/-- d[k], the dict frozen -/
def dDix (ta tb : DT) : DT := fun S P => ta S fun x S1 => tb S1 fun y S2 => ∃ ks ds k d, x = .dk ks ds ∧ keyD y = some k ∧ lookL ks ds k = some d ∧ P d S2
theorem de_dix (hu : X.A.units + 64 < cLine) (ha : DE X W a ta) (hb : DE X W b tb) (hs : NoSl b) : DE X W (.Subscript a b pos) (dDix ta tb) := by
  refine pe_imp (pe_dget (by omega) ha hb hs) fun σ H Q ⟨G, S, P, R, p, q⟩ => ?_
  refine ⟨G, S, _, R, p, fun x S1 p1 v H1 G1 s1 R1 d1 => ⟨G1, S1, _, R1, p1, fun y S2 ⟨ks, ds, k, d, ex, ek, el, p2⟩ w H2 G2 s2 R2 d2 => ?_⟩⟩
  subst ex
  cases d1 with
  | @dk b kvs _ h1 h2 =>
    have l := lookL_dv (k := k) h2
    rw [el] at l
    obtain ⟨u, hu, du⟩ := l
    have e := R2.gh _ _ (s2 _ _ h1)
    have ew := keyD_dv ek d2
    subst ew
    have g := DGet.k (k := k) e
    rw [hu] at g
    exact ⟨b, u, rfl, g, q d S2 p2 u H2 G2 (s1.trans s2) R2 (Dv.up s2 _ _ du)⟩
/-- k in d, the dict frozen -/
def dDin (f : Bool → Bool) (ty td : DT) : DT := fun S P => ty S fun y S1 => td S1 fun x S2 => ∃ ks ds k, x = .dk ks ds ∧ keyD y = some k ∧ P (.bl (f (lookL ks ds k).isSome)) S2
theorem lift_din {f : Bool → Bool} (σ : L2.St) (H : Hp) (Q : VK) (h : lift W X.K (dDin f ty td) σ H Q) :
    lift W X.K ty σ H fun y H1 => lift W X.K td σ H1 fun x H2 => ∃ a o, x = .ref a ∧ DGet H2 a y o ∧ Q (.bl (f o.isSome)) H2 := by
  obtain ⟨G, S, P, R, p, q⟩ := h
  refine ⟨G, S, _, R, p, fun y S1 p1 w H1 G1 s1 R1 d1 => ⟨G1, S1, _, R1, p1, fun x S2 ⟨ks, ds, k, ex, ek, p2⟩ v H2 G2 s2 R2 d2 => ?_⟩⟩
  subst ex
  cases d2 with
  | @dk b kvs _ h1 h2 =>
    have l := lookL_dv (k := k) h2
    have e := R2.gh _ _ h1
    have ew := keyD_dv ek d1
    subst ew
    refine ⟨b, _, rfl, DGet.k (k := k) e, ?_⟩
    have es : (valV kvs k).isSome = (lookL (kvs.map (·.1)) ds k).isSome := by
      cases el : lookL (kvs.map (·.1)) ds k with
      | none => rw [el] at l; rw [show valV kvs k = none from l]; rfl
      | some d => rw [el] at l; obtain ⟨u, hu, _⟩ := l; rw [hu]; rfl
    rw [es]
    exact q _ S2 p2 _ H2 G2 (s1.trans s2) R2 (.bl _)
theorem dt_din (hu : X.A.units + 64 < cLine) (hi : DE X W i ty) (ho : DE X W o td) (h1 : behindInMarks .In o = false := by first | exact nobehind _ (by decide) (by decide) | rfl) : DTe X W (.Compare i [.In] [o] pos) (dBool (dDin id ty td)) := by
  refine pt_imp (pt_cmp (pc_din (by omega) hi ho) h1) fun σ H Q h => ?_
  exact lift_din (f := id) σ H _ (lift_bool σ H Q h)
/-- own dicts -/
theorem own_dt {K : PySem.W.Frag} {G H : Hp} {σ : L2.St} {S : Ds} {i : Nat} {ks : List (List Key)} {ds : List D} (R : Rep W K G H σ S) (e : getS S.ρ i = some (.o (.dt ks ds))) : ∃ a kvs, σ[i]? = some (some (.ref a)) ∧ Frsh W G a ∧ H a = some (.dT kvs) ∧ kvs.map (·.1) = ks ∧ DvAll K G (kvs.map (·.2)) ds := by
  obtain ⟨v, ev, a, rfl, f, kvs, o1, o2, o3⟩ := R.sl i _ e
  exact ⟨a, kvs, ev, f, o1, o2, o3⟩
theorem own_dk {K : PySem.W.Frag} {G H : Hp} {σ : L2.St} {S : Ds} {i : Nat} {ks : List Key} {ds : List D} (R : Rep W K G H σ S) (e : getS S.ρ i = some (.o (.dk ks ds))) : ∃ a kvs, σ[i]? = some (some (.ref a)) ∧ Frsh W G a ∧ H a = some (.dK kvs) ∧ kvs.map (·.1) = ks ∧ DvAll K G (kvs.map (·.2)) ds := by
  obtain ⟨v, ev, a, rfl, f, kvs, o1, o2, o3⟩ := R.sl i _ e
  exact ⟨a, kvs, ev, f, o1, o2, o3⟩
/-- d.get(k, x), d owned, its keys tuples -/
def dGetO2 (i : Nat) (te tf : DT) : DT := fun S P => (∃ ks ds, getS S.ρ i = some (.o (.dt ks ds))) ∧ te S fun y S1 => tf S1 fun z S2 => ∃ es k ks ds, y = .tup es ∧ keyOf es = some k ∧ getS S2.ρ i = some (.o (.dt ks ds)) ∧ P ((lookL ks ds k).getD z) S2
theorem de_getO2 {x : Str} {i : Nat} (hu : X.A.units + 64 < cLine) (hn : PE X (.Name x p1) (tVar i)) (he : DE X W e te) (hf : DE X W f tf) (m : M2 X (.Name x p1) "get" apos e f pos) : DE X W (.Call (.Attribute (.Name x p1) "get" apos) [e, f] [] pos) (dGetO2 i te tf) := by
  refine pe_imp (pe_dget2 (by omega) hn he hf m) fun σ H Q ⟨G, S, P, R, ⟨⟨ks0, ds0, e0⟩, p⟩, q⟩ => ?_
  obtain ⟨a, kvs0, ev, f0, h0, _, _⟩ := own_dt R e0
  refine ⟨_, ev, a, rfl, .inr ⟨kvs0, .inl h0⟩, G, S, _, R, p, fun y S1 p1 w H1 G1 s1 R1 d1 => ⟨G1, S1, _, R1, p1, fun z S2 ⟨es, k, ks, ds, ey, ek, e2, p2⟩ u H2 G2 s2 R2 d2 => ?_⟩⟩
  subst ey
  obtain ⟨a', kvs, ev', f2, h2, rfl, dv⟩ := own_dt R2 e2
  rw [ev] at ev'
  cases ev'
  cases d1 with
  | @tup c xs _ k1 k2 =>
    have ex := keyOf_dv ek k2
    subst ex
    refine ⟨_, DGet.t h2 (R2.gh _ _ (s2 _ _ k1)), q _ S2 p2 _ H2 G2 (s1.trans s2) R2 ?_⟩
    have l := lookL_dv (k := k) dv
    cases el : lookL (kvs.map (·.1)) ds k with
    | none => rw [el] at l; rw [show valV kvs k = none from l]; exact d2
    | some d => rw [el] at l; obtain ⟨u', hu', du⟩ := l; rw [hu']; exact du
/-- d[k] = x, d owned, its keys tuples -/
def dPutT (i : Nat) (te ty : DT) : DST := fun E S => te S fun d S1 => (∃ ks ds, getS S1.ρ i = some (.o (.dt ks ds))) ∧ ty S1 fun y S2 => ∃ es k ks ds, y = .tup es ∧ keyOf es = some k ∧ getS S2.ρ i = some (.o (.dt ks ds)) ∧ ks.length < sizeLine ∧ E.nx (putO S2 i (.dt (putKs ks k) (putDs ks ds k d)))
theorem ds_putT {x : Str} {j : Nat} (hu : X.A.units + 64 < cLine) (hn : PE X (.Name x p1) (tVar j)) (hi : DE X W i ty) (hv : DE X W e te) (hs : swapsWith e (some (.Subscript (.Name x p1) i pos')) pos.line X.env = pure false := by rfl) :
    DS X W (.Assign [.Subscript (.Name x p1) i pos'] e pos) (dPutT j te ty) := by
  refine ps_imp (ps_dput (by omega) hn hi hv hs) fun N σ H ⟨G, S, E, R, h, ok⟩ => ?_
  refine ⟨G, S, _, R, h, fun d S1 ⟨⟨ks0, ds0, e0⟩, p1⟩ v H1 G1 s1 R1 d1 => ?_⟩
  obtain ⟨a, kvs0, ev, f0, h0, _, _⟩ := own_dt R1 e0
  refine ⟨_, ev, G1, S1, _, R1, p1, fun y S2 ⟨es, k, ks, ds, ey, ek, e2, hz, n⟩ w H2 G2 s2 R2 d2 => ?_⟩
  subst ey
  obtain ⟨a', kvs, ev', f2, h2, rfl, dv⟩ := own_dt R2 e2
  rw [ev] at ev'
  cases ev'
  cases d2 with
  | @tup c xs _ k1 k2 =>
    have ex := keyOf_dv ek k2
    subst ex
    obtain ⟨b1, b2⟩ := put_dv (Dv.up s2 _ _ d1) dv (k := k)
    exact ⟨_, _, rfl, DPut.t h2 (R2.gh _ _ k1) (by rw [List.length_map] at hz; exact hz), ok.nx _ _ _ G2 (s1.trans s2) n (R2.wrO e2 ev f2 ⟨_, upd_same, b1, b2⟩)⟩
/-- d[k] = x, d owned, its keys ints and texts -/
def dPutK (i : Nat) (te ty : DT) : DST := fun E S => te S fun d S1 => (∃ ks ds, getS S1.ρ i = some (.o (.dk ks ds))) ∧ ty S1 fun y S2 => ∃ k ks ds, keyD y = some k ∧ getS S2.ρ i = some (.o (.dk ks ds)) ∧ ks.length < sizeLine ∧ E.nx (putO S2 i (.dk (putKs ks k) (putDs ks ds k d)))
theorem ds_putK {x : Str} {j : Nat} (hu : X.A.units + 64 < cLine) (hn : PE X (.Name x p1) (tVar j)) (hi : DE X W i ty) (hv : DE X W e te) (hs : swapsWith e (some (.Subscript (.Name x p1) i pos')) pos.line X.env = pure false := by rfl) :
    DS X W (.Assign [.Subscript (.Name x p1) i pos'] e pos) (dPutK j te ty) := by
  refine ps_imp (ps_dput (by omega) hn hi hv hs) fun N σ H ⟨G, S, E, R, h, ok⟩ => ?_
  refine ⟨G, S, _, R, h, fun d S1 ⟨⟨ks0, ds0, e0⟩, p1⟩ v H1 G1 s1 R1 d1 => ?_⟩
  obtain ⟨a, kvs0, ev, f0, h0, _, _⟩ := own_dk R1 e0
  refine ⟨_, ev, G1, S1, _, R1, p1, fun y S2 ⟨k, ks, ds, ek, e2, hz, n⟩ w H2 G2 s2 R2 d2 => ?_⟩
  obtain ⟨a', kvs, ev', f2, h2, rfl, dv⟩ := own_dk R2 e2
  rw [ev] at ev'
  cases ev'
  have ew := keyD_dv ek d2
  subst ew
  obtain ⟨b1, b2⟩ := put_dv (Dv.up s2 _ _ d1) dv (k := k)
  exact ⟨_, _, rfl, DPut.k h2 (by rw [List.length_map] at hz; exact hz), ok.nx _ _ _ G2 (s1.trans s2) n (R2.wrO e2 ev f2 ⟨_, upd_same, b1, b2⟩)⟩
/-- xs[i] = x, xs an owned list -/
def dPutL (i : Nat) (te ty : DT) : DST := fun E S => te S fun d S1 => (ownL S1 i).isSome = true ∧ ty S1 fun y S2 => ∃ (n : Int) (j : Nat) (ds : List D), y = .int n ∧ ownL S2 i = some ds ∧ ixN ds.length n = some j ∧ E.nx (putO S2 i (.lst (ds.set j d)))
theorem ds_putL {x : Str} {j : Nat} (hn : PE X (.Name x p1) (tVar j)) (hi : DE X W i ty) (hv : DE X W e te) (hs : swapsWithSole [.Subscript (.Name x p1) i pos'] e pos.line X.env = pure false := by rfl) (hw : swappedStores [.Subscript (.Name x p1) i pos'] e X.env = pure none := by rfl)
    (h1 : (assignEach [.Subscript (.Name x p1) i pos'] X.env).map (·.2) = [assign (.Subscript (.Name x p1) i pos') X.env] := by rfl)
    (h2 : ∀ v, assign (.Subscript (.Name x p1) i pos') X.env v = (do
      let ov ← holding [v] (eval (.Name x p1) X.env)
      let iv ← holding [v, ov] (eval i X.env)
      standAt pos'
      holding [v, ov, iv] (setItem ov iv v)
      release [v, ov, iv] []) := by intros; rfl) :
    DS X W (.Assign [.Subscript (.Name x p1) i pos'] e pos) (dPutL j te ty) := by
  refine ps_imp (ps_asg hv (pg_sub hn hi set_list h2) hs hw h1) fun N σ H ⟨G, S, E, R, h, ok⟩ => ?_
  refine ⟨G, S, _, R, h, fun d S1 ⟨e0, p1⟩ v H1 G1 s1 R1 d1 => ?_⟩
  obtain ⟨ds0, e0⟩ := Option.isSome_iff_exists.mp e0
  obtain ⟨a, xs0, g0, ev, f0, h0, _⟩ := own_at R1 e0
  refine ⟨_, ev, G1, S1, _, R1, p1, fun y S2 ⟨n, jj, ds, ey, e2, ej, nn⟩ w H2 G2 s2 R2 d2 => ?_⟩
  subst ey
  obtain ⟨a', xs, g2, ev', f2, h2, dv⟩ := own_at R2 e2
  rw [ev] at ev'
  cases ev'
  cases d2
  refine ⟨a, xs, n, jj, rfl, rfl, h2, by rw [dva_len dv]; exact ej, ok.nx _ _ _ G2 (s1.trans s2) nn (R2.wrO g2 ev f2 ⟨_, upd_same, dva_set (Dv.up s2 _ _ d1) jj dv⟩)⟩
/-- i += e, ints -/
def dAug (i : Nat) (te : DT) : DST := fun E S => ∃ m, getS S.ρ i = some (.v (.int m)) ∧ te S fun y S1 => ∃ n, y = .int n ∧ E.nx ⟨setS S1.ρ i (some (.v (.int (m + n)))), S1.dr⟩
theorem ds_aug {i : Nat} {x : Str} {pp : Pos} (hN : X.N.Nodup) (hi : X.N[i]? = some x) (hx : Loc X.env.scope x) (he : DE X W e te) (hf : X.fn x = true ∨ X.env.scope.names.lookup x = some .local := by first | exact .inl rfl | exact .inr rfl | assumption) :
    DS X W (.AugAssign (.Name x pp) .Add e pos) (dAug i te) := by
  refine ps_imp (ps_aug hN hi hx he ip_add hf) fun N σ H ⟨G, S, E, R, ⟨m, em, h⟩, ok⟩ => ?_
  obtain ⟨v, ev, dv⟩ := R.sl i _ em
  cases (show Dv X.K G v (.int m) from dv)
  refine ⟨_, ev, G, S, _, R, h, fun y S1 ⟨n, ey, nx⟩ w H1 G1 s1 R1 d1 => ?_⟩
  subst ey
  cases d1
  exact ⟨m, n, rfl, rfl, ok.nx _ _ H1 G1 s1 nx (R1.setV (.int _))⟩
theorem ints_dv {K : PySem.W.Frag} {G : Hp} : ∀ {ns : List Int} {vs : List V}, DvAll K G vs (ns.map D.int) → vs = ns.map V.int
  | [], _, .nil => rfl
  | n :: ns, _, .cons h t => by cases h; rw [ints_dv t]; rfl
theorem dv_ints {K : PySem.W.Frag} {G : Hp} : ∀ ns : List Int, DvAll K G (ns.map V.int) (ns.map D.int)
  | [] => .nil
  | n :: ns => .cons (.int n) (dv_ints ns)
/-- sorted(a list of ints) -/
def dSortI (ds : List D) (P : D → Prop) : Prop := ∃ ns : List Int, ds = [.lst (ns.map D.int)] ∧ ns.length < 64 ∧ ∀ ms : List Int, ms.Perm ns → ms.Pairwise (· ≤ ·) → P (.lst (ms.map D.int))
theorem dc_sortI : DCalO X W (.builtin "sorted") dSortI := by
  refine ⟨_, cr_sorted, fun G H σ S vs ds P Q R dv ⟨ns, e, few, p⟩ q => ?_⟩
  subst e
  cases dv with
  | cons h t =>
    cases t
    cases h with
    | @lst a xs _ h1 h2 =>
      have ex := ints_dv h2
      subst ex
      refine ⟨a, ns, rfl, SqL.of (R.gh _ _ h1), few, fun ms pp pm pw hp => ?_⟩
      obtain ⟨R2, f, no⟩ := R.fresh (u := .lst (ms.map V.int)) hp
      exact q _ (p ms pm pw) pp _ G (Same.refl _) R2 f ⟨_, upd_same, dv_ints ms⟩ no
end
end Dl
namespace Dl
open PySem PySem.Spec PyProof.Rows L2 Sw Ss
/-! ### displays of dicts -/
def dPairs : List (DT × DT) → Ds → (List (Key × D) → Ds → Prop) → Prop
  | [], S, P => P [] S
  | p :: r, S, P => p.1 S fun x S1 => p.2 S1 fun y S2 => dPairs r S2 fun ps S3 => ∃ k, keyD x = some k ∧ P ((k, y) :: ps) S3
def dDisp (ts : List (DT × DT)) : DT := fun S P => dPairs ts S fun ps S1 => ps.length ≤ 15 ∧ (ps.map (·.1)).Nodup ∧ P (.dk (ps.map (·.1)) (ps.map (·.2))) S1
theorem merge_nodup : ∀ (more acc : List (Key × V)), ((acc ++ more).map (·.1)).Nodup → mergeK acc more = acc ++ more
  | [], acc, _ => by rw [List.append_nil]; rfl
  | p :: r, acc, h => by
    have e : putK acc p.1 p.2 = acc ++ [p] := by
      unfold putK
      rw [if_neg]
      rw [List.any_eq_true]
      rintro ⟨x, hx, e⟩
      have e := of_decide_eq_true e
      rw [List.map_append, List.map_cons, List.nodup_append] at h
      exact h.2.2 x.1 (List.mem_map.mpr ⟨x, hx, rfl⟩) p.1 (by simp) e
    show mergeK (putK acc p.1 p.2) r = _
    rw [e, merge_nodup r _ (by rw [List.append_assoc]; exact h), List.append_assoc]; rfl
section
variable {X : Cx} {kk : Dek} {W : Wd kk}
theorem lift_pairs {K : PySem.W.Frag} {W' : Wd kk} {σ : L2.St} : ∀ (ts : List (DT × DT)) {G H : Hp} {S : Ds} {P : List (Key × D) → Ds → Prop} {Q : List (V × V) → Hp → Prop}, Rep W' K G H σ S → dPairs ts S P →
    (∀ ps S', P ps S' → ∀ (kvs : List (Key × V)) H' G', Same G G' → Rep W' K G' H' σ S' → kvs.map (·.1) = ps.map (·.1) → DvAll K G' (kvs.map (·.2)) (ps.map (·.2)) → Q (kvs.map fun kv => (kV kv.1, kv.2)) H') →
    tPairs (ts.map fun p => (anyE kk K p.1, anyE kk K p.2)) σ H Q
  | [], G, H, S, P, Q, R, p, q => q [] S p [] H G (Same.refl _) R rfl .nil
  | t :: r, G, H, S, P, Q, R, p, q => ⟨W', G, S, _, R, p, fun x S1 p1 v H1 G1 s1 R1 d1 => ⟨W', G1, S1, _, R1, p1, fun y S2 p2 w H2 G2 s2 R2 d2 => lift_pairs r R2 p2 fun ps S3 ⟨k, ek, p3⟩ kvs H3 G3 s3 R3 e3 dv3 => by
      have e := keyD_dv ek d1
      subst e
      exact q _ S3 p3 ((k, w) :: kvs) H3 G3 ((s1.trans s2).trans s3) R3 (by rw [List.map_cons, List.map_cons, e3]) (.cons (Dv.up s3 _ _ d2) dv3)⟩⟩
def DPs (X : Cx) (kk : Dek) (pos : Pos) (keys : List (Option Expr)) (vals : List Expr) (ts : List (DT × DT)) : Prop := PPs X pos keys vals (ts.map fun p => (anyE kk X.K p.1, anyE kk X.K p.2))
theorem dps_nil {pos : Pos} : DPs X kk pos [] [] [] := pps_nil
theorem dps_cons {pos : Pos} {k v : Expr} {ks : List (Option Expr)} {vs : List Expr} {tk tv : DT} {ts : List (DT × DT)} (hk : ∀ W : Wd kk, DE X W k tk) (hv : ∀ W : Wd kk, DE X W v tv) (hr : DPs X kk pos ks vs ts) : DPs X kk pos (some k :: ks) (v :: vs) ((tk, tv) :: ts) :=
  pps_cons (pe_anyE hk) (pe_anyE hv) hr
theorem do_disp {pos : Pos} {keys : List (Option Expr)} {values : List Expr} {ts : List (DT × DT)} (h : DPs X kk pos keys values ts) (hall : keys.all (·.isSome) = true := by rfl) (hl : keys.length = values.length := by rfl) (h0 : keys ≠ [] := by simp)
    (h15 : keys.length ≤ 15 := by decide) : DO X W (.Dict keys values pos) (dDisp ts) := by
  refine pe_imp (pe_disp h hall hl h0 h15) fun σ H Q ⟨G, S, P, R, p, q⟩ => fun pp hp => ?_
  obtain ⟨R1, f1, no1⟩ := R.fresh (u := .dK []) hp
  refine lift_pairs ts (R1.plus f1 no1 upd_same) p fun ps S' ⟨h1, nd, p1⟩ kvs H' G' s' R' e dv => ?_
  have gp : R'.gh = R'.gh := rfl
  obtain ⟨R2, f2, no2, e2⟩ := Rep.less f1.f (R.bg.free f1.g) R'
  have el : kvs.length = ps.length := by rw [← List.length_map (f := (·.1)), e, List.length_map]
  refine ⟨e2, kvs, rfl, by rw [el]; exact h1, ?_⟩
  rw [merge_nodup kvs [] (by rw [List.nil_append, e]; exact nd), List.nil_append]
  exact q _ S' p1 pp _ G' s' (R2.wrD f2 no2) f2 ⟨kvs, upd_same, e, dv⟩ no2
/-! ### sorted({.. for ..}), of texts -/
def scL (vs : List Nat) (g : DGT) (te : DT) (P : List Str → Ds → Prop) : List D → List Str → Ds → Prop
  | [], acc, S => P acc S
  | d :: ds, acc, S => g d ⟨wipeD S.ρ vs, S.dr⟩ fun S2 => te S2 fun x S3 => ∃ z, x = .str z ∧ acc.length + 1 < scanBound ∧ scL vs g te P ds (acc ++ [z]) ⟨wipeD S3.ρ vs, S3.dr⟩
def dSortSc (ti : DIT) (g : DGT) (te : DT) (vs : List Nat) : DT := fun S P => ti S fun ds S1 => scL vs g te (fun zs S2 => ∀ ys : List Str, sortedS ys = true → ys.Nodup → (∀ z, z ∈ ys ↔ z ∈ zs) → P (.lst (ys.map D.str)) ⟨Dl.back S1.ρ S2.ρ vs, S2.dr⟩) ds [] ⟨wipeD S1.ρ vs, S1.dr⟩
theorem dv_strs {K : PySem.W.Frag} {G : Hp} : ∀ ns : List Str, DvAll K G (ns.map V.str) (ns.map D.str)
  | [] => .nil
  | n :: ns => .cons (.str n) (dv_strs ns)
theorem lift_sc {own is : List Nat} {wi : DIT} {g : DGT} {te : DT} (hsub : ∀ i ∈ is, i ∈ own) (σ : L2.St) (H : Hp) (Q : VK) (h : liftO W X.K (dSortSc wi g te own) σ H Q) :
    tScP X.w (liftI W X.K wi) (anyG kk X.K is g) (anyT kk X.K dYes) (anyE kk X.K te) own σ H fun v H1 => rSortM X.w [v] H1 Q := by
  obtain ⟨G, S, P, R, p, q⟩ := h
  refine ⟨G, S, _, R, p, fun ds S1 p1 H1 G1 s1 R1 J Gd Y wk gd yl => fun D hD => ?_⟩
  obtain ⟨R1', f1, no1⟩ := R1.fresh (u := SetMO X.w D []) hD
  have hDk : D ∉ kk.dk := f1.d
  refine ⟨ds.length, fun i H2 => ∃ G2 S2 acc L, Same G1 G2 ∧ Rep W X.K G2 H2 σ S2 ∧ Frsh W G2 D ∧ NoOwn σ S2 D ∧ H2 D = some (SetMO X.w D L) ∧ (∀ k, k ∈ L ↔ k ∈ acc.map Sum.inr) ∧ L.length ≤ acc.length ∧ scL own g te (fun zs S2 => ∀ ys : List Str, sortedS ys = true → ys.Nodup → (∀ z, z ∈ ys ↔ z ∈ zs) → P (.lst (ys.map Dl.D.str)) ⟨Dl.back S1.ρ S2.ρ own, S2.dr⟩) (ds.drop i) acc S2,
    ⟨G1, _, [], [], Same.refl _, R1'.off (Off.refl' own σ), f1, fun i d q => no1 i d (getS_wipe q).2, upd_same, fun k => by simp, Nat.le_refl _, by rw [List.drop_zero]; exact p1⟩, ?_, ?_⟩
  · rintro H2 ⟨G2, S2, acc, L, s2, R2, f2, no2, e2, mem, len, p2⟩
    rw [List.drop_length] at p2
    refine ⟨wk.stops H2 (gd H2 (s2.trans R2.gh)), D, L, rfl, e2, .inl ⟨acc, mem, fun ys pp so nd my hp => ?_⟩⟩
    have R3 := Rep.back R1 s2 R2 own
    obtain ⟨R4, f, no⟩ := R3.fresh (u := .lst (ys.map V.str)) hp
    exact q _ _ (p2 ys so nd my) pp _ G2 (s1.trans s2) R4 f ⟨_, upd_same, dv_strs ys⟩ no
  · rintro i H2 hi ⟨G2, S2, acc, L, s2, R2, f2, no2, e2, mem, len, p2⟩
    have hg2 := gd H2 (s2.trans R2.gh)
    refine ⟨wk.goes i H2 hi hg2, fun x H3 y0 => ?_⟩
    have y := wk.yields i H2 x H3 hi hg2 y0
    obtain ⟨d, ed, co⟩ := yl i H2 x H3 hi y
    have nB : W.B D = none := R2.bg.free f2.g
    obtain ⟨G3, s3, R3, d3⟩ := co (W.plus D (SetMO X.w D L) hDk) G2 σ S2 s2 (R2.plus f2 no2 e2)
    rw [drop_cons ed] at p2
    refine ⟨W.plus D (SetMO X.w D L) hDk, G3, _, d, _, R3.off (off_wipe σ own), d3, p2, fun S4 p4 σ4 H4 G4 s4 R4 o4 => ?_⟩
    have o4' : Off own (wipe σ own) σ4 := off_sub o4 hsub
    have w4 : wipe σ4 own = wipe σ own := by
      rw [wipe_off o4', wipe_off (off_wipe' σ own)]
    have offσ : Off own σ σ4 := ⟨by rw [o4'.1, wipe_length], fun j hj => (o4'.2 j hj).trans (wipe_get hj)⟩
    refine ⟨w4, W.plus D (SetMO X.w D L) hDk, G4, S4, (fun b S5 => b = true ∧ te S5 fun x S3 => ∃ z, x = .str z ∧ acc.length + 1 < scanBound ∧ scL own g te (fun zs S2 => ∀ ys : List Str, sortedS ys = true → ys.Nodup → (∀ z, z ∈ ys ↔ z ∈ zs) → P (.lst (ys.map Dl.D.str)) ⟨Dl.back S1.ρ S2.ρ own, S2.dr⟩) (ds.drop (i + 1)) (acc ++ [z]) ⟨wipeD S3.ρ own, S3.dr⟩), R4, ⟨rfl, p4⟩, fun b S5 ⟨eb, p5⟩ H5 G5 s5 R5 => ?_⟩
    have sG : Same G2 G5 := s3.trans (s4.trans s5)
    cases b with
    | true =>
      refine iteT ?_
      refine ⟨W.plus D (SetMO X.w D L) hDk, G5, S5, _, R5, p5, fun dy S6 ⟨z, edy, hz, p6⟩ yv H6 G6 s6 R6 d6 => ?_⟩
      subst edy
      cases d6
      obtain ⟨R7, f7, no7, e7⟩ := Rep.less f2.f nB (R6.off offσ)
      refine ⟨L, .inr z, rfl, e7, by omega, fun L' nx => ?_⟩
      refine ⟨G6, _, acc ++ [z], L', s2.trans (sG.trans s6), R7.wrD f7 no7, f7, no7, upd_same, fun k => ?_, ?_, p6⟩
      · rw [nx.mem, mem, List.map_append, List.mem_append]
        constructor
        · rintro (e | e)
          · exact .inr (by rw [e]; simp)
          · exact .inl e
        · rintro (e | e)
          · exact .inr e
          · exact .inl (by simpa using e)
      · have := nx.len
        rw [List.length_append, List.length_singleton]; omega
    | false =>
      cases eb
theorem do_sortSc {ex tg iter : Expr} {scope : Scope} {own : List (Str × Nat)} {is : List Nat} {p pos pos' : Pos} {wi : DIT} {g : DGT} {te : DT} (hc : X.calm = true) (hgl : Gl X "sorted") (hm : X.mg "sorted" = none) (hN : X.N.Nodup) (hi : DI X W tg iter wi) (ok : BlkOk X.N X.env.scope scope own)
    (hg : ∀ (s : Shared) (H : Hp) (C : Addr) (cl : List (Str × Addr)) (fp : List Addr) (W' : Wd kk), DG (X.blk s H scope (compEnvC scope cl C X.env) fp) W' tg is g)
    (he : ∀ (s : Shared) (H : Hp) (C : Addr) (cl : List (Str × Addr)) (fp : List Addr) (W' : Wd kk), DE (X.blk s H scope (compEnvC scope cl C X.env) fp) W' ex te) (hsub : ∀ i ∈ is, i ∈ own.map (·.2) := by decide) (hs : ∀ x, foldedSetIterable iter X.env x = pure x := by intro _; rfl)
    (hst : starEach [.SetComp ex [⟨tg, iter, [], 0⟩] scope pos'] X.env = (false, eval (.SetComp ex [⟨tg, iter, [], 0⟩] scope pos') X.env) :: starEach [] X.env := by rfl) :
    DO X W (.Call (.Name "sorted" p) [.SetComp ex [⟨tg, iter, [], 0⟩] scope pos'] [] pos) (dSortSc wi g te (own.map (·.2))) :=
  pe_imp (pe_callB (cr_sortM hc) hgl hm (by decide +kernel) (pa_cons (pe_scP hc hN hi ok (fun s H C cl fp => pg_anyG (hg s H C cl fp)) (fun s H C cl fp => pt_anyT fun W' => dts_nil) (fun s H C cl fp => pe_anyE (he s H C cl fp)) hs) pa_nil) (by decide) (by decide) hst) fun σ H Q h => lift_sc hsub σ H Q h
end
/-! ### o.m(k = e) -/
section
variable {X : Cx} {CX : CXT} {k l : Nat} {f C a p' g' : Addr} {fd : FuncData} {ps ks : List Str} {sp : Sp} {E : XK} {m : Str} {o e : Expr} {pos apos : Pos} {kws : List Keyword} {ta : TE} {tk : TA} {g : List Value → List Value → List Value} {gV : List V → List V → List V}
theorem pe_methKw {pl : Sem Bool} (he : PE X o ta) (c : Cls X.K C) (hm : Meth X.K C m f) (F : FnOk X.prog X.w X.K X.mg X.base CX k f fd ps sp) (hr : Room k X.A) (hb : KBn X.K fd ps 1 ks g gV) (hx : Passes CX X E) (hkw : PK X kws tk)
    (hall : (backToKw pos (keywordEach kws X.env)).all (·.1.isSome) = true := by rfl) (hks : (backToKw pos (keywordEach kws X.env)).filterMap (·.1) = ks := by rfl)
    (hp : ((backTo pos (starEach [] X.env)).any (·.1) || (backToKw pos (keywordEach kws X.env)).any (·.1.isNone)) = false := by rfl)
    (ht : eval (.Call (.Attribute o m apos) [] kws pos) X.env = (do
      let ov ← eval o X.env
      standAt apos.atName
      let (f, first) ← holding [ov] (getMethod ov m pl)
      callWith pos f first (backTo pos (starEach [] X.env)) (backToKw pos (keywordEach kws X.env))) := by rfl) :
    PE X (.Call (.Attribute o m apos) [] kws pos) (fun σ H Q => ta σ H fun x H1 => ∃ a dx fs, x = .ref a ∧ H1 a = some (.ins C dx fs) ∧ fs.lookup m = none ∧ tk σ H1 fun zs H2 => zs.length = ks.length ∧ sp (gV [.ref a] zs) H2 Q E) := by
  refine ⟨fun pins s σ H Q I h => ?_⟩
  refine PySem.W.methodCall_KW (pl := pl) (thn (he.run pins s σ H _ I h) fun u s1 ⟨x, H1, I1, rx, a, dx, fs, ex, ea, l, q⟩ => ?_) ht
  subst ex
  obtain rfl : u = Value.ref a := rx
  refine getmeth_ok I1 ea c hm l ?_
  refine PySem.W.callWith_KW0 (first := [.ref a]) (h₀ := X.base) I.ok.mod.kin hm.kp hall ?_ hp
  refine thn (hkw.run pos pins s1 σ H1 _ I1 q) fun ws s2 ⟨zs, H2, I2, rz, lz, q2⟩ => ⟨I2.kIn, ?_⟩
  rw [hks]
  exact run_fnN (us := [.ref a]) (vs := [.ref a]) F hr hb hx I2 (.cons rfl .nil) rz rfl lz q2
end
section
variable {X : Cx} {kk : Dek} {W : Wd kk} {l : Nat} {f C p' : Addr} {fd : FuncData} {ps : List Str} {sp : DSp} {m nm : Str} {o e : Expr} {pos apos kpos : Pos} {ta te : DT}
theorem de_methKw {pl : Sem Bool} (he : DE X W o ta) (c : Cls X.K C) (hm : Meth X.K C m f) (F : FnK X.prog X.w X.K X.mg X.base l f fd ps kk sp) (hr : Room l X.A) (hb : KBn X.K fd ps 1 [nm] (fun us ws => us ++ ws) (fun vs zs => vs ++ zs)) (ha : DE X W e te)
    (hall : (backToKw pos (keywordEach [⟨some nm, e, kpos⟩] X.env)).all (·.1.isSome) = true := by rfl) (hks : (backToKw pos (keywordEach [⟨some nm, e, kpos⟩] X.env)).filterMap (·.1) = [nm] := by rfl)
    (hp : ((backTo pos (starEach [] X.env)).any (·.1) || (backToKw pos (keywordEach [⟨some nm, e, kpos⟩] X.env)).any (·.1.isNone)) = false := by rfl)
    (ht : eval (.Call (.Attribute o m apos) [] [⟨some nm, e, kpos⟩] pos) X.env = (do
      let ov ← eval o X.env
      standAt apos.atName
      let (f, first) ← holding [ov] (getMethod ov m pl)
      callWith pos f first (backTo pos (starEach [] X.env)) (backToKw pos (keywordEach [⟨some nm, e, kpos⟩] X.env))) := by rfl) :
    DE X W (.Call (.Attribute o m apos) [] [⟨some nm, e, kpos⟩] pos) (dMeth C m sp ta (dCons te dNil)) := by
  refine pe_imp (pe_methKw (E := E0) he c hm F hr hb pass0 (pk_cons ha pk_nil) hall hks hp ht) fun σ H Q ⟨G, S, P, R, p, q⟩ => ?_
  refine ⟨G, S, _, R, p, fun x S1 ⟨⟨ns, ds, ex, hn⟩, p1⟩ v H1 G1 s1 R1 d1 => ?_⟩
  subst ex
  cases d1 with
  | @ins b _ dx fs _ h1 h2 =>
    refine ⟨b, dx, fs, rfl, R1.gh _ _ h1, ?_, ?_⟩
    · rw [List.lookup_eq_none_iff]
      intro y hy
      exact bne_iff_ne.mpr fun z => hn (List.mem_map.mpr ⟨y, hy, z.symm⟩)
    · refine ⟨G1, S1, _, R1, p1, fun y S2 p2 w H2 G2 s2 R2 d2 => ⟨rfl, ?_⟩⟩
      exact after_call R2 (.cons (Dv.up s2 _ _ (.ins h1 h2)) (.cons d2 .nil)) p2 fun d S3 p3 v H3 G3 s3 R3 dv3 => q d S3 p3 v H3 G3 ((s1.trans s2).trans s3) R3 dv3
/-! ### a property -/
def dProp (C : Addr) (sp : DSp) (ta : DT) : DT := fun S P => ta S fun x S1 => (∃ ns ds, x = .ins C ns ds) ∧ sp [x] S1.dr fun d n => P d ⟨S1.ρ, n⟩
theorem de_prop (he : DE X W o ta) (c : Cls X.K C) (hp : PropOf X.K C m p' f) (F : FnK X.prog X.w X.K X.mg X.base l f fd ps kk sp) (hr : Room (l + 1) X.A) (hb : Binds X.K fd ps [])
    (hab : attributeBase o m X.env (eval o X.env) = eval o X.env := by rfl) : DE X W (.Attribute o m pos) (dProp C sp ta) := by
  refine pe_imp (pe_prop (E := E0) he c hp F hr hb .nil pass0 hab) fun σ H Q ⟨G, S, P, R, p, q⟩ => ?_
  refine ⟨G, S, _, R, p, fun x S1 ⟨⟨ns, ds, ex⟩, p1⟩ v H1 G1 s1 R1 d1 => ?_⟩
  subst ex
  cases d1 with
  | @ins b _ dx fs _ h1 h2 =>
    refine ⟨b, dx, fs, rfl, R1.gh _ _ h1, ?_⟩
    exact after_call R1 (.cons (.ins h1 h2) .nil) p1 fun d S3 p3 v H3 G3 s3 R3 dv3 => q d S3 p3 v H3 G3 (s1.trans s3) R3 dv3
/-! ### whether a list holds something -/
def dTruL (ta : DT) : DTT := fun S P => ta S fun x S1 => ∃ ds, (x = .lst ds ∨ x = .tup ds) ∧ P (!ds.isEmpty) S1
theorem dva_empty {K : PySem.W.Frag} {G : Hp} {vs : List V} {ds : List D} (h : DvAll K G vs ds) : vs.isEmpty = ds.isEmpty := by cases h <;> rfl
theorem dt_truL (ha : DE X W o ta) (he : ∀ whole, isTrue o X.env whole = (do let v ← whole; standAt o.pos; holding [v] (truthy v)) := by intro _; rfl) : DTe X W o (dTruL ta) := by
  refine pt_imp (pt_truth ha he) fun σ H Q ⟨G, S, P, R, p, q⟩ => ?_
  refine ⟨G, S, _, R, p, fun x S1 ⟨ds, ex, p1⟩ v H1 G1 s1 R1 d1 => ?_⟩
  rcases ex with rfl | rfl
  · cases d1 with
    | @lst b xs _ h1 h2 =>
      exact ⟨_, .inl ⟨xs, SqL.of (R1.gh _ _ h1), rfl⟩, by rw [dva_empty h2]; exact q _ S1 p1 H1 G1 s1 R1⟩
  · cases d1 with
    | @tup b xs _ h1 h2 =>
      exact ⟨_, .inr (.inl ⟨xs, SqT.of (R1.gh _ _ h1), rfl⟩), by rw [dva_empty h2]; exact q _ S1 p1 H1 G1 s1 R1⟩
end
end Dl
namespace Dl
open PySem PySem.Spec PyProof.Rows L2 Sw
/-! ### x != y, by an own __eq__ alone -/
section
variable {prog : Program} {w : World} {A : Around} {E : Value → Shared → Prop} {s : Shared} {K : PySem.W.Frag} {x C f : Addr} {ox : Obj} {od : Option Obj} {b tb : Value}
theorem ne_entry (hu : A.units < cLine) (X : K.In s.heap) (I : PySem.W.InstAt s.heap x ox C od) (hs : PySem.W.findIn K (.ref C) "__eq__" = some (some (.ref f))) (hf : PySem.W.isFn K (.ref f) = true) {Q : Fin → Shared → Prop}
    (h : wpAny (model prog w) A (call (.ref f) [.ref x, b]) (fun v s' => ∃ c, v = .bool c ∧ Q (.done (.ret (.bool (!c)))) s') E s) : wpAny (model prog w) A (Builtin.«object.__ne__» ⟨[.ref x, b], []⟩) Q E s := by
  unfold Builtin.«object.__ne__»
  repeat (first
    | with_reducible refine wpAny_cRoomFor hu ?_
    | (refine wpAny_bind (m := callSpecialIfBound? (.ref x) (Str.ofString "__eq__") [b]) (PySem.W.ifBound_K X I hs hf (wpAny_mono h (fun r s' hr => by
          obtain ⟨c, rfl, hq⟩ := hr
          repeat (first | exact hq | exact wpAny_pure hq | exact wpAny_truthy_bool hq | (refine wpAny_bind (m := truthy (.bool _)) (wpAny_truthy_bool ?_)) | wp_step)) fun _ _ e => e)))
    | wp_step)
theorem ifBound_ne {M : Model} {args : List Value} {Q : Option Value → Shared → Prop} (X : K.In s.heap) (I : PySem.W.InstAt s.heap x ox C od) (hn : PySem.W.findIn K (.ref C) "__ne__" = some (some (.builtin "object.__ne__")))
    (h : wpAny M A (call (.builtin "object.__ne__") (.ref x :: args)) (fun v => Q (some v)) E s) : wpAny M A (callSpecialIfBound? (.ref x) "__ne__" args) Q E s := by
  simp only [callSpecialIfBound?, bindSpecialIfBound?]
  refine wpAny_holding (wpAny_bind (wpAny_bind (wpAny_bind (I.type.here ((PySem.W.looks_findIn X hn).here ?_)))))
  refine wpAny_bind (wpAny_askSetting (wpAny_ite ?_))
  have fin : wpAny M A (call (.builtin "object.__ne__") ([.ref x] ++ args) >>= fun v => pure (some v)) Q E s := wpAny_bind (wpAny_mono h (fun v s' h' => wpAny_pure h') fun _ _ h' => h')
  split
  · exact wpAny_bind (wpAny_of_eq (F.cmp_object.ne.bind _) (wpAny_pure (by exact fin)))
  · exact wpAny_tryCatch (wpAny_bind (wpAny_of_eq (F.cmp_object.ne.bind _) (wpAny_pure (by exact fin))))
theorem ne_rich (hu : A.units + 1 < cLine) (X : K.In s.heap) (I : PySem.W.InstAt s.heap x ox C od) (hb : PySem.W.Looks (model prog w) s.heap (typeOf b) tb) (hnf : PySem.W.notFirst K C tb = true) (hm : PySem.W.mroIn K C (.type "object") = some true)
    (hn : PySem.W.findIn K (.ref C) "__ne__" = some (some (.builtin "object.__ne__"))) (hs : PySem.W.findIn K (.ref C) "__eq__" = some (some (.ref f))) (hf : PySem.W.isFn K (.ref f) = true) {Q : Value → Shared → Prop}
    (h : wpAny (model prog w) A.in1 (call (.ref f) [.ref x, b]) (fun v s' => ∃ c, v = .bool c ∧ Q (.bool (!c)) s') E s) : wpAny (model prog w) A (richCompare .NotEq (.ref x) b) Q E s := by
  have one : wpAny (model prog w) A (tryCompare (.ref x) "__ne__" b) (fun r s' => ∃ v, r = some v ∧ Q v s') E s := by
    unfold tryCompare
    refine wpAny_bind (ifBound_ne X I hn (wpAny_call (codeAny_call_builtin F.cmp_object.ne.plain F.cmpEntry_ne (PySem.W.check_slot F.cmpKind_ne F.cmpSplit_ne (I.type.andThen (PySem.W.looks_mroIn X hm)) (F.cmpArgs_ne _ _) (ne_entry (A := A.in1) hu X I hs hf (wpAny_mono h (fun v s' hv => ?_) fun _ _ e => e))))))
    obtain ⟨c, rfl, hq⟩ := hv
    first | exact ⟨c, rfl, wpAny_pure ⟨_, rfl, hq⟩⟩ | exact ⟨c, rfl, wpAny_pure (wpAny_pure ⟨_, rfl, hq⟩)⟩ | exact ⟨c, rfl, ⟨_, rfl, hq⟩⟩
  unfold richCompare
  simp only [oneThing_ref]
  refine wpAny_holding (wpAny_bind (wpAny_cRoomFor (by omega) ?_))
  refine wpAny_bind (I.type.here (wpAny_bind (hb.here ?_)))
  split
  · rename_i q
    have e : PySem.W.subIn K tb (.ref C) = some false := by
      rcases Bool.or_eq_true_iff.mp hnf with e | e
      · rw [beq_iff_eq.mp e] at q; simp at q
      · exact beq_iff_eq.mp e
    refine wpAny_bind ((PySem.W.looks_subIn X e).here ?_)
    simp only [Bool.false_eq_true, if_false]
    refine wpAny_bind (wpAny_mono one (fun r s' z => ?_) fun _ _ e => e)
    obtain ⟨v, rfl, hq⟩ := z
    exact wpAny_pure hq
  · refine wpAny_bind (wpAny_pure ?_)
    simp only [Bool.false_eq_true, if_false]
    refine wpAny_bind (wpAny_mono one (fun r s' z => ?_) fun _ _ e => e)
    obtain ⟨v, rfl, hq⟩ := z
    exact wpAny_pure hq
end
section
variable {X : Cx} {kk : Dek} {W : Wd kk} {l : Nat} {f C : Addr} {fd : FuncData} {ps : List Str} {a b : Expr} {pos : Pos} {ta tb : DT}
theorem op_ownNe {sp : Sp} (F : FnOk X.prog X.w X.K X.mg X.base CX0 l f fd ps sp) (hr : Room (l + 1) X.A) (hm : PySem.W.mroIn X.K C (.type "object") = some true) (hn : PySem.W.findIn X.K (.ref C) "__ne__" = some (some (.builtin "object.__ne__")))
    (hs : PySem.W.findIn X.K (.ref C) "__eq__" = some (some (.ref f))) (hf : PySem.W.isFn X.K (.ref f) = true) (hb : Binds X.K fd ps []) :
    OpR X (compareOp .NotEq) (fun x y H Q => ∃ a dx fs t, x = .ref a ∧ H a = some (.ins C dx fs) ∧ TyX X.K H y t ∧ PySem.W.notFirst X.K C t = true ∧ sp [x, y] H (fun v H' => ∃ c, v = .bl c ∧ Q (.bl (!c)) H') E0) := by
  intro pins s σ H x y v u Q I rx ry ⟨a, dx, fs, t, ex, ha, ty, hnf, q⟩
  subst ex
  cases (show v = Value.ref a from rx)
  obtain ⟨mA, J, _⟩ := ins_get I.hok ha
  obtain ⟨od, J, _⟩ := J.look
  obtain ⟨Z, kx, pz, _⟩ := kit_of I ry ty
  have hu := hr.units
  unfold compareOp
  refine ne_rich (tb := t) (by omega) I.kIn J (kx.ty _ _ I.kIn pz) hnf hm hn hs hf ?_
  have hl : [Value.ref a, u].length = ps.length := by
    rw [← F.len _ _ _ _ q]; rfl
  refine wpAny_call (codeAny_mono (F.run X.A.in1 X.stack s H ⟨[.ref a, u], []⟩ [.ref a, u] [.ref a, y] _ E0 hr.in1 I.env0.in1 (hb _ [.ref a, u] I.kIn hl) (.cons rfl (.cons ry .nil)) q) fun r s' hq => ?_)
  cases r with
  | error er => exact False.elim hq
  | ok fl =>
    cases fl with
    | ret u =>
      obtain ⟨v, H', I3, rv, c, rfl, q3⟩ := I.after hq
      cases rv
      exact ⟨c, rfl, .bl (!c), H', I3, rfl, q3⟩
    | next => exact False.elim hq
    | brk => exact False.elim hq
    | cont => exact False.elim hq
def dOwnNe (C : Addr) (sp : DSp) (ta tb : DT) : DT := fun S P => ta S fun x S1 => tb S1 fun y S2 => (∃ ns ds, x = .ins C ns ds) ∧ tyOk C y ∧ sp [x, y] S2.dr fun d n => ∃ c, d = .bl c ∧ P (.bl (!c)) ⟨S2.ρ, n⟩
theorem lift_ownNe {sp : DSp} {r : R2} (I : InsC X.K C) (no : ∀ n ∈ tyNames, PySem.W.notFirst X.K C (.type n) = true) (er : r = fun x y H Q => ∃ a dx fs t, x = .ref a ∧ H a = some (.ins C dx fs) ∧ TyX X.K H y t ∧ PySem.W.notFirst X.K C t = true ∧ spL X.K kk sp [x, y] H (fun v H' => ∃ c, v = .bl c ∧ Q (.bl (!c)) H') E0) (σ : L2.St) (H : Hp) (Q : VK) (h : lift W X.K (dOwnNe C sp ta tb) σ H Q) : tOp r (lift W X.K ta) (lift W X.K tb) σ H Q := by
  subst er
  obtain ⟨G, S, P, R, p, q⟩ := h
  refine ⟨G, S, _, R, p, fun x S1 p1 v H1 G1 s1 R1 d1 => ⟨G1, S1, _, R1, p1, fun y S2 ⟨⟨ns, ds, ex⟩, k, p2⟩ w H2 G2 s2 R2 d2 => ?_⟩⟩
  subst ex
  have d1' := Dv.up s2 _ _ d1
  have fin : spL X.K kk sp [v, w] H2 (fun v H' => ∃ c, v = .bl c ∧ Q (.bl (!c)) H') E0 := after_call (P := fun d S' => ∃ c, d = .bl c ∧ P (.bl (!c)) S') R2 (.cons d1' (.cons d2 .nil)) p2 fun d S3 ⟨c, ed, p3⟩ u H3 G3 s3 R3 dv3 => by
    subst ed
    cases dv3
    exact ⟨c, rfl, q _ S3 p3 _ H3 G3 ((s1.trans s2).trans s3) R3 (.bl _)⟩
  cases d1' with
  | @ins b _ dx fs _ h1 h2 =>
    rcases ty_of I k R2.gh d2 with ⟨_, ty⟩ | ⟨_, n, hn, ty⟩
    · exact ⟨b, dx, fs, _, rfl, R2.gh _ _ h1, ty, by simp [PySem.W.notFirst], fin⟩
    · exact ⟨b, dx, fs, _, rfl, R2.gh _ _ h1, ty, no n hn, fin⟩
variable {sp : DSp}
theorem de_ownNe (I : InsC X.K C) (F : FnK X.prog X.w X.K X.mg X.base l f fd ps kk sp) (hr : Room (l + 1) X.A) (hn : PySem.W.findIn X.K (.ref C) "__ne__" = some (some (.builtin "object.__ne__"))) (hs : PySem.W.findIn X.K (.ref C) "__eq__" = some (some (.ref f))) (hf : PySem.W.isFn X.K (.ref f) = true) (hb : Binds X.K fd ps [])
    (no : ∀ n ∈ tyNames, PySem.W.notFirst X.K C (.type n) = true) (ha : DE X W a ta) (hb2 : DE X W b tb) : DE X W (.Compare a [.NotEq] [b] pos) (dOwnNe C sp ta tb) :=
  pe_imp (pe_cmpR (op_ownNe F hr I.hm hn hs hf hb) ha hb2 (nobehind _ (by decide) (by decide))) fun σ H Q h => lift_ownNe I no rfl σ H Q h
theorem dt_ownNe (I : InsC X.K C) (F : FnK X.prog X.w X.K X.mg X.base l f fd ps kk sp) (hr : Room (l + 1) X.A) (hn : PySem.W.findIn X.K (.ref C) "__ne__" = some (some (.builtin "object.__ne__"))) (hs : PySem.W.findIn X.K (.ref C) "__eq__" = some (some (.ref f))) (hf : PySem.W.isFn X.K (.ref f) = true) (hb : Binds X.K fd ps [])
    (no : ∀ n ∈ tyNames, PySem.W.notFirst X.K C (.type n) = true) (ha : DE X W a ta) (hb2 : DE X W b tb) : DTe X W (.Compare a [.NotEq] [b] pos) (dBool (dOwnNe C sp ta tb)) :=
  pt_imp (pt_cmpR (op_ownNe F hr I.hm hn hs hf hb) ha hb2 (nobehind _ (by decide) (by decide))) fun σ H Q h => lift_ownNe I no rfl σ H _ (lift_bool σ H Q h)
end
end Dl
namespace Dl
open PySem PySem.Spec PyProof.Rows L2 Sw
/-! ### repr of any value, {} at any depth too -/
mutual
def toPyE : D → PyData
  | .non => .none
  | .bl b => .bool b
  | .int i => .int i
  | .str z => .str z
  | .lst ds => .list (toPyEs ds)
  | .tup ds => .tuple (toPyEs ds)
  | .dk _ _ => .dict []
  | .dt _ _ => .none
  | .ins _ _ _ => .none
  | .at _ => .none
def toPyEs : List D → List PyData
  | [] => []
  | d :: ds => toPyE d :: toPyEs ds
end
mutual
def pureE : D → Bool
  | .non => true
  | .bl _ => true
  | .int _ => true
  | .str _ => true
  | .lst ds => pureEs ds
  | .tup ds => pureEs ds
  | .dk ks ds => ks.isEmpty && ds.isEmpty
  | .dt _ _ => false
  | .ins _ _ _ => false
  | .at _ => false
def pureEs : List D → Bool
  | [] => true
  | d :: ds => pureE d && pureEs ds
end
theorem atMost_up {h : Heap} {n m : Nat} {bs : List Addr} (x : ReadAtMost h n bs) (e : n ≤ m) : ReadAtMost h m bs := fun b hb =>
  let ⟨d, as, r, hd⟩ := x b hb
  ⟨d, as, r, Nat.le_trans hd e⟩
section
variable {X : Cx} {pins : List (Addr × Obj)} {σ : L2.St} {G H : Hp} {s : Shared}
mutual
theorem dv_repr (I : Inv X pins σ H s) (g : Same G H) : ∀ (d : D) (v : V) (u : Value), pureE d = true → Dv X.K G v d → RelV v u → (toPyE d).showable = true → (toPyE d).shown.length ≤ sizeLine →
    ∃ as bs, Reads s.heap u (toPyE d) as ∧ ReadAtMost s.heap (toPyE d).depth bs ∧ ReprK X.prog X.w bs s.heap (toPyE d).depth u (toPyE d).shown
  | .non, _, _, _, h, r, hs, hz => by
    cases h; cases r
    obtain ⟨bs, b1, b2⟩ := ReprK.of_reads (prog := X.prog) (w := X.w) (Reads.none (h := s.heap)) hs (fun z => by simp [PyData.hasDict] at z) hz
    exact ⟨[], bs, .none, b1, b2⟩
  | .bl b, _, _, _, h, r, hs, hz => by
    cases h; cases r
    obtain ⟨bs, b1, b2⟩ := ReprK.of_reads (prog := X.prog) (w := X.w) (Reads.bool (h := s.heap) b) hs (fun z => by simp [PyData.hasDict] at z) hz
    exact ⟨[], bs, .bool b, b1, b2⟩
  | .int i, _, _, _, h, r, hs, hz => by
    cases h
    obtain ⟨t, rfl⟩ := r
    obtain ⟨bs, b1, b2⟩ := ReprK.of_reads (prog := X.prog) (w := X.w) (Reads.int (h := s.heap) i t) hs (fun z => by simp [PyData.hasDict] at z) hz
    exact ⟨[], bs, .int i t, b1, b2⟩
  | .str z, _, _, _, h, r, hs, hz => by
    cases h
    obtain ⟨t, rfl⟩ := r
    obtain ⟨bs, b1, b2⟩ := ReprK.of_reads (prog := X.prog) (w := X.w) (Reads.str (h := s.heap) z t) hs (fun z => by simp [PyData.hasDict] at z) hz
    exact ⟨[], bs, .str z t, b1, b2⟩
  | .lst ds, _, _, p, h, r, hs, hz => by
    cases h with
    | @lst a xs _ h1 h2 =>
      cases r
      obtain ⟨its, rv, ⟨o, n, ho, hc, _, hda⟩, _⟩ := I.list (SqL.of (K := X.K) (g _ _ h1))
      have hz' : (listText (PyData.shownAll (toPyEs ds))).length ≤ sizeLine := by simpa only [toPyE, PyData.shown] using hz
      obtain ⟨as, bs, q1, hb, hk⟩ := dvs_repr I g ds xs its p h2 rv (by simpa only [toPyE, PyData.showable] using hs) (fun t ht => Nat.le_trans (listText_mem_le ht) hz')
      have rd : Reads s.heap (.ref a) (.list (toPyEs ds)) (a :: as) := .list ho hc hda (by simpa using q1)
      have hna : a ∉ bs := not_mem_of_deeper rd (by simp only [PyData.depth]; omega) hb
      refine ⟨a :: as, a :: bs, rd, show ReadAtMost s.heap (toPyE (.lst ds)).depth (a :: bs) from ReadAtMost.cons rd (by simp only [toPyE]; exact Nat.le_refl _) (atMost_up hb (by simp only [toPyE, PyData.depth]; omega)), ?_⟩
      simp only [toPyE, PyData.depth, PyData.shown]
      cases its with
      | nil =>
        have e0 : ∀ ts, ReprAllK X.prog X.w bs s.heap (PyData.depthAll (toPyEs ds)) [] ts → ts = [] := fun ts z => by cases z; rfl
        rw [e0 _ hk, listText_nil]
        exact ReprK.listEmpty ho hc hda
      | cons x l => exact ReprK.list ho hc hda hna (by simpa using hk.length_eq) (fun i y e => hk.item i y (by simpa using e))
  | .tup ds, _, _, p, h, r, hs, hz => by
    cases h with
    | @tup a xs _ h1 h2 =>
      cases r
      obtain ⟨its, rv, ⟨o, ho, hc, n, hda⟩, _⟩ := I.tuple (SqT.of (K := X.K) (g _ _ h1))
      have hz' : (tupleText (PyData.shownAll (toPyEs ds))).length ≤ sizeLine := by simpa only [toPyE, PyData.shown] using hz
      obtain ⟨as, bs, q1, hb, hk⟩ := dvs_repr I g ds xs its p h2 rv (by simpa only [toPyE, PyData.showable] using hs) (fun t ht => Nat.le_trans (tupleText_mem_le ht) hz')
      have rd : Reads s.heap (.ref a) (.tuple (toPyEs ds)) _ := .tuple ho hc hda (by simpa using q1)
      have hna : a ∉ bs := not_mem_of_deeper rd (by simp only [PyData.depth]; omega) hb
      refine ⟨_, a :: bs, rd, show ReadAtMost s.heap (toPyE (.tup ds)).depth (a :: bs) from ReadAtMost.cons rd (by simp only [toPyE]; exact Nat.le_refl _) (atMost_up hb (by simp only [toPyE, PyData.depth]; omega)), ?_⟩
      simp only [toPyE, PyData.depth, PyData.shown]
      exact ReprK.tuple ho hc hda hna (by simpa using hk)
  | .dk ks ds, _, _, p, h, r, hs, hz => by
    cases h with
    | @dk a kvs _ h1 h2 =>
      obtain ⟨p1, _⟩ := Bool.and_eq_true_iff.mp (show ((kvs.map (·.1)).isEmpty && ds.isEmpty) = true from p)
      have ek : kvs = [] := by
        cases kvs with
        | nil => rfl
        | cons _ _ => cases p1
      subst ek
      cases r
      obtain ⟨_, hsm, vs, kv, o, es, ep, ho, hex, hd, _, he, _⟩ := I.hok a _ (g _ _ h1)
      cases kv
      have he' : es.toList = [] := by
        generalize es.toList = l at he ⊢
        cases he
        rfl
      have rd : Reads s.heap (.ref a) (.dict []) (a :: [] ++ []) := by
        refine Reads.dict (kvs := []) ho hex.1 hd ?_ ?_
        · rw [he']; exact .nil
        · rw [he']; exact .nil
      obtain ⟨bs, b1, b2⟩ := ReprK.of_reads (prog := X.prog) (w := X.w) rd hs (fun _ hm => by
        have : sysModules = a := by simpa using hm
        rw [this] at hsm
        simp at hsm) hz
      exact ⟨_, bs, rd, b1, b2⟩
  | .dt _ _, _, _, p, _, _, _, _ => by cases p
  | .ins _ _ _, _, _, p, _, _, _, _ => by cases p
  | .at _, _, _, p, _, _, _, _ => by cases p
theorem dvs_repr (I : Inv X pins σ H s) (g : Same G H) : ∀ (ds : List D) (vs : List V) (us : List Value), pureEs ds = true → DvAll X.K G vs ds → Vals vs us → PyData.showableAll (toPyEs ds) = true → (∀ t ∈ PyData.shownAll (toPyEs ds), t.length ≤ sizeLine) →
    ∃ as bs, ReadsAll s.heap us (toPyEs ds) as ∧ ReadAtMost s.heap (PyData.depthAll (toPyEs ds)) bs ∧ ReprAllK X.prog X.w bs s.heap (PyData.depthAll (toPyEs ds)) us (PyData.shownAll (toPyEs ds))
  | [], _, _, _, h, r, _, _ => by
    cases h; cases r
    exact ⟨[], [], .nil, (fun _ z => nomatch z), by simp only [toPyEs, PyData.shownAll]; exact .nil⟩
  | d :: ds, _, _, p, h, r, hs, hz => by
    obtain ⟨p1, p2⟩ := Bool.and_eq_true_iff.mp (show (pureE d && pureEs ds) = true from p)
    cases h with
    | cons h1 h2 =>
      cases r with
      | cons r1 r2 =>
        have hs2 : (toPyE d).showable = true ∧ PyData.showableAll (toPyEs ds) = true := by simpa only [toPyEs, PyData.showableAll, Bool.and_eq_true] using hs
        obtain ⟨as1, b1, q1, hb1, k1⟩ := dv_repr I g d _ _ p1 h1 r1 hs2.1 (hz _ (by simp only [toPyEs, PyData.shownAll]; exact List.mem_cons_self ..))
        obtain ⟨as2, b2, q2, hb2, k2⟩ := dvs_repr I g ds _ _ p2 h2 r2 hs2.2 fun t ht => hz t (by simp only [toPyEs, PyData.shownAll]; exact List.mem_cons_of_mem _ ht)
        refine ⟨as1 ++ as2, b1 ++ b2, .cons q1 q2, fun b hm => ?_, ?_⟩
        · simp only [toPyEs, PyData.depthAll]
          rcases List.mem_append.mp hm with hm | hm
          · exact atMost_up hb1 (Nat.le_max_left _ _) b hm
          · exact atMost_up hb2 (Nat.le_max_right _ _) b hm
        · simp only [toPyEs, PyData.depthAll, PyData.shownAll]
          exact .cons ((k1.more fun b hb => List.mem_append_left _ hb).level_le (Nat.le_max_left _ _)) (k2.more_le (fun b hb => List.mem_append_right _ hb) (Nat.le_max_right _ _))
end
end
/-- what repr takes -/
structure GoodE (d : D) : Prop where
  p : pureE d = true
  s : (toPyE d).showable = true
  dp : (toPyE d).depth ≤ 50
  sz : (toPyE d).shown.length ≤ sizeLine
@[irreducible] def shownE (d : D) : Str := (toPyE d).shown
theorem shownE_eq (d : D) : shownE d = (toPyE d).shown := by unfold shownE; rfl
def dReprE (ds : List D) (P : D → Prop) : Prop := match ds with
  | [d] => GoodE d ∧ P (.str (shownE d))
  | _ => False
section
variable {X : Cx} {kk : Dek} {W : Wd kk}
def rReprE (K : PySem.W.Frag) : List V → Hp → VK → Prop := fun xs H Q => ∃ (v : V) (G : Hp) (d : D), xs = [v] ∧ Same G H ∧ Dv K G v d ∧ GoodE d ∧ Q (.str (shownE d)) H
theorem cr_reprE (hG : X.A.guards = some []) (hu : X.A.units + 64 < cLine) : CallR X (.builtin "repr") (rReprE X.K) := by
  intro pins s σ H xs us Q I r h
  obtain ⟨v, G, d, rfl, g, hv, gd, q⟩ := h
  rw [shownE_eq] at q
  cases r with
  | @cons _ u _ _ r1 rt =>
    cases rt
    have hs := gd.s
    have hz := gd.sz
    have hdp := gd.dp
    have fin : ∀ (h' : Heap) (t : Tok) (tk : Nat), (∀ b o, s.heap.get? b = some o → h'.get? b = some o) → EP X pins σ Q (.str (toPyE d).shown t) { s with heap := h', toks := tk } := fun h' t tk k =>
      ⟨.str _, H, I.kept (t' := tk) k, ⟨_, rfl⟩, q⟩
    cases d with
    | non => cases hv; cases r1; exact P.repr_of_none ⟨.str _, H, I.tok _, ⟨_, rfl⟩, q⟩
    | bl b => cases hv; cases r1; exact P.repr_of_bool ⟨.str _, H, I.tok _, ⟨_, rfl⟩, q⟩
    | int i =>
      cases hv
      obtain ⟨t, rfl⟩ := r1
      exact P.repr_of_int (by simpa [toPyE, PyData.showable] using hs) ⟨.str _, H, I.tok _, ⟨_, rfl⟩, q⟩
    | str z =>
      cases hv
      obtain ⟨t, rfl⟩ := r1
      exact P.repr_of_str ⟨.str _, H, I.tok _, ⟨_, rfl⟩, q⟩ hz
    | lst ds =>
      cases hv with
      | @lst a xs _ h1 h2 =>
        cases r1
        obtain ⟨its, rv, ⟨o, n, ho, hc, _, hda⟩, _⟩ := I.list (SqL.of (K := X.K) (g _ _ h1))
        have hz' : (listText (PyData.shownAll (toPyEs ds))).length ≤ sizeLine := by simpa only [toPyE, PyData.shown] using hz
        obtain ⟨as, bs, q1, hb, k1⟩ := dvs_repr I g ds xs its gd.p h2 rv (by simpa only [toPyE, PyData.showable] using hs) (fun t ht => Nat.le_trans (listText_mem_le ht) hz')
        have rd : Reads s.heap (.ref a) (.list (toPyEs ds)) (a :: as) := .list ho hc hda (by simpa using q1)
        have hna : a ∉ bs := not_mem_of_deeper rd (by simp only [PyData.depth]; omega) hb
        have hdp' : PyData.depthAll (toPyEs ds) + 1 ≤ 50 := by simpa only [toPyE, PyData.depth] using hdp
        simp only [toPyE, PyData.shown] at fin
        refine call_repr_slot (by omega) ⟨o, ho, hc⟩ F.slot_list_repr.toG ?_
        cases its with
        | nil =>
          have e0 : ∀ ts, ReprAllK X.prog X.w bs s.heap (PyData.depthAll (toPyEs ds)) [] ts → ts = [] := fun ts z => by cases z; rfl
          rw [e0 _ k1, listText_nil] at fin
          exact call_list_repr_empty ⟨o, ho, hc⟩ ho hda ⟨_, _, rfl, fin s.heap _ _ fun _ _ e => e⟩
        | cons x l =>
          exact call_list_reprK ho hc hda hna (by simpa using k1.length_eq) (fun i y e => k1.item i y (by simpa using e)) hG (fun b _ => Clear.nil b) (by show X.A.units + 1 + _ < cLine; omega) (fun _ _ z => z) (fun h' u tk k => ⟨_, _, rfl, fin h' u tk k⟩) hz'
    | tup ds =>
      cases hv with
      | @tup a xs _ h1 h2 =>
        cases r1
        obtain ⟨its, rv, ⟨o, ho, hc, n, hda⟩, _⟩ := I.tuple (SqT.of (K := X.K) (g _ _ h1))
        have hz' : (tupleText (PyData.shownAll (toPyEs ds))).length ≤ sizeLine := by simpa only [toPyE, PyData.shown] using hz
        obtain ⟨as, bs, q1, hb, k1⟩ := dvs_repr I g ds xs its gd.p h2 rv (by simpa only [toPyE, PyData.showable] using hs) (fun t ht => Nat.le_trans (tupleText_mem_le ht) hz')
        have rd : Reads s.heap (.ref a) (.tuple (toPyEs ds)) _ := .tuple ho hc hda (by simpa using q1)
        have hna : a ∉ bs := not_mem_of_deeper rd (by simp only [PyData.depth]; omega) hb
        have hdp' : PyData.depthAll (toPyEs ds) + 1 ≤ 50 := by simpa only [toPyE, PyData.depth] using hdp
        simp only [toPyE, PyData.shown] at fin
        refine call_repr_slot (by omega) ⟨o, ho, hc⟩ F.slot_tuple_repr ?_
        exact call_tuple_reprK ho hc hda hna (by simpa using k1) hG (fun b _ => Clear.nil b) (by show X.A.units + 1 + _ < cLine; omega) (fun _ _ z => z) (fun h' u tk k => ⟨_, _, rfl, fin h' u tk k⟩) hz'
    | dk ks ds =>
      have hp := gd.p
      cases hv with
      | @dk a kvs _ h1 h2 =>
        obtain ⟨p1, _⟩ := Bool.and_eq_true_iff.mp (show ((kvs.map (·.1)).isEmpty && ds.isEmpty) = true from hp)
        have ek : kvs = [] := by
          cases kvs with
          | nil => rfl
          | cons _ _ => cases p1
        subst ek
        exact call_repr0 hG hu pins s σ H _ _ Q I (.cons r1 .nil) ⟨a, rfl, g _ _ h1, q⟩
    | dt _ _ => have := gd.p; cases this
    | ins _ _ _ => have := gd.p; cases this
    | «at» _ => have := gd.p; cases this
theorem dc_reprE (hG : X.A.guards = some []) (hu : X.A.units + 64 < cLine) : DCal X W (.builtin "repr") dReprE := by
  refine ⟨_, cr_reprE hG hu, fun G H σ S vs ds P Q R hv h q => ?_⟩
  match ds, hv, h with
  | [d], .cons h1 .nil, ⟨gd, h⟩ => exact ⟨_, G, d, rfl, R.gh, h1, gd, q _ h _ H G (Same.refl _) R (.str _)⟩
end
end Dl
namespace Dl
open PySem PySem.Spec PyProof.Rows L2 Sw
/-! ### {} for keys that are tuples; an own class, made; its __init__ -/
section
variable {X : Cx} {kk : Dek} {W : Wd kk} {pos : Pos}
theorem do_empT : DO X W (.Dict [] [] pos) (dC (.dt [] [])) := by
  refine pe_imp pe_dnewT fun σ H Q ⟨G, S, P, R, p, q⟩ => ?_
  show ∀ p, H p = none → Q (.ref p) (upd H p (.dT []))
  intro a ha
  obtain ⟨R2, f, no⟩ := R.fresh (u := .dT []) ha
  exact q _ S p a _ G (Same.refl _) R2 f ⟨[], upd_same, rfl, .nil⟩ no
end
def spIni (K : PySem.W.Frag) (C : Addr) (ok : List D → Prop) (ns : List Str) (fs : List D → List D → Prop) : Sp := fun vs H Q _ => ∃ (x dx : Addr) (us : List V) (G : Hp) (ds : List D), vs = .ref x :: us ∧ H x = some (.ins C dx []) ∧ G x = none ∧ Same G H ∧ DvAll K G us ds ∧ ok ds ∧
  ∀ r, fs ds r → ∀ H' G', Same G G' → Same G' H' → (∀ a o, G' a = some o → G a = some o ∨ H a = none) → (∀ a o, a ≠ x → H a = some o → H' a = some o) → G' x = none → (∃ gs, H' x = some (.ins C dx gs) ∧ gs.map (·.1) = ns ∧ DvAll K G' (gs.map (·.2)) r) → Q .non H'
def dMake (C : Addr) (ok : List D → Prop) (ns : List Str) (fs : List D → List D → Prop) (t : DTA) : DT := fun S P => t S fun ds S1 => ok ds ∧ ∀ r, fs ds r → P (.ins C ns r) S1
section
variable {X : Cx} {kk : Dek} {W : Wd kk} {l : Nat} {f C : Addr} {fd : FuncData} {ps : List Str} {x : Str} {p pos : Pos} {e : Expr} {es : List Expr} {t : DTA} {ok : List D → Prop} {ns : List Str} {fs : List D → List D → Prop}
theorem de_make (M : Mk X.K C f) (F : FnOk X.prog X.w X.K X.mg X.base CX0 l f fd ps (spIni X.K C ok ns fs)) (hr : Room (l + 1) X.A) (hg : Gl X x) (hm : X.mg x = some (.ref C)) (hb : Binds X.K fd ps []) (ha : DA X W (e :: es) t)
    (hdb : (x == ("__debug__" : Str)) = false := by decide) (he : starEach (e :: es) X.env = (false, eval e X.env) :: starEach es X.env := by rfl) (hpl : (backTo pos (starEach es X.env)).any (·.1) = false := by rfl) :
    DE X W (.Call (.Name x p) (e :: es) [] pos) (dMake C ok ns fs t) := by
  refine pe_imp (pe_make (E := E0) M F hr hg hm hb .nil pass0 ha hdb he hpl) fun σ H Q ⟨G, S, P, R, p, q⟩ => ?_
  refine ⟨G, S, _, R, p, fun ds S1 ⟨p0, p1⟩ vs H1 G1 s1 R1 dv => fun xa dx hxa hdx hne => ?_⟩
  have old : ∀ a o, H1 a = some o → a ≠ xa ∧ a ≠ dx := fun a o e => ⟨ne_of_none e hxa, ne_of_none e hdx⟩
  have s2 : Same H1 (upd (upd H1 dx (.own xa)) xa (.ins C dx [])) := fun a o e => by
    obtain ⟨a1, a2⟩ := old a o e
    rw [upd_ne a1, upd_ne a2]; exact e
  have dkx : ∀ a, H1 a = none → a ∉ kk.dk := fun a e m => W.tr H1 S1.dr R1.dk a m e
  refine ⟨xa, dx, vs, G1, ds, by rw [List.append_nil], upd_same, R1.gh.free hxa, R1.gh.trans s2, dv, p0, fun r hr H' G' z1 z2 z3 z4 z5 z6 => ⟨rfl, ?_⟩⟩
  obtain ⟨gs, f1, f2, f3⟩ := z6
  have hH : ∀ a o, H1 a = some o → H' a = some o := fun a o e => z4 a o (old a o e).1 (s2 a o e)
  have g := same_upd (o := .ins C dx gs) z5
  have R2 := R1.grow (n := S1.dr) (G' := upd G' xa (.ins C dx gs)) (H' := H') (z1.trans g) (fun a o e => by
    by_cases h : a = xa
    · subst h; rw [upd_same] at e; cases e; exact f1
    · rw [upd_ne h] at e; exact z2 a o e) (fun a o e => by
    by_cases h : a = xa
    · subst h; exact .inr ⟨hxa, dkx _ hxa⟩
    · rw [upd_ne h] at e
      rcases z3 a o e with e | e
      · exact .inl e
      · have : H1 a = none := by
          cases q : H1 a with
          | none => rfl
          | some u => rw [s2 a u q] at e; cases e
        exact .inr ⟨this, dkx _ this⟩) (fun a o e _ => hH a o e) (W.st H1 H' S1.dr R1.dk fun a m => by
    cases q : H1 a with
    | none => exact absurd m (dkx a q)
    | some u => exact hH a u q)
  refine q _ S1 (p1 r hr) _ H' _ (s1.trans (z1.trans g)) R2 ?_
  rw [← f2]
  exact .ins upd_same (DvAll.up g _ _ f3)
end
/-! ### self.f = e, in __init__ -/
def kk0 : Dek := ⟨[], fun _ _ => True, fun _ _ _ _ _ => trivial, fun _ _ _ a h => by cases h⟩
theorem Wd.ext' {k : Dek} {W W' : Wd k} (h1 : W.B = W'.B) (h2 : W.F = W'.F) : W = W' := by
  cases W; cases W'
  dsimp only at h1 h2
  subst h1 h2
  rfl
theorem st_fld {K : PySem.W.Frag} {W2 : Wd kk0} {x C dx : Addr} {fs : List (Str × V)} {nx : x ∉ kk0.dk} {G1 H1 : Hp} {σ : L2.St} {S : Ds} {te : DT} {f : Str} {N : Ends} {P : D → Ds → Prop} (fx : W2.F x = none) (bx : W2.B x = none) (c : Cls K C) (na : NoAttr K C f) (hl : fs.length < 1000) (hσ : σ[0]? = some (some (.ref x)))
    (R : Rep (W2.plus x (.ins C dx fs) nx) K G1 H1 σ S) (ht : te S P)
    (next : ∀ d S' v H2 G2, P d S' → Same G1 G2 → Dv K G2 v d → Rep (W2.plus x (.ins C dx (putF f v fs)) nx) K G2 (upd H2 x (.ins C dx (putF f v fs))) σ S' → N.nx σ (upd H2 x (.ins C dx (putF f v fs)))) :
    sFld K (tVar 0) (anyE kk0 K te) f N σ H1 := by
  refine ⟨_, G1, S, P, R, ht, fun d S' p v H2 G2 s2 R2 dv => ⟨_, hσ, x, C, dx, fs, rfl, ?_, c, na, hl, next d S' v H2 G2 p s2 dv ?_⟩⟩
  · exact R2.fr x _ upd_same
  · obtain ⟨R3, f3, n3, e3⟩ := Rep.less fx bx R2
    exact (R3.wrD f3 n3).plus f3 n3 upd_same
end Dl
namespace Dl
open PySem PySem.Spec PyProof.Rows L2 Sw
/-! ### enumerate(a tuple) -/
/-- enumerate of what begins so: its two new objects -/
theorem enum_one {prog : Program} {w : World} {A : Around} {E : Value → Shared → Prop} {s : Shared} {v : Value} {o : Obj} {B : Heap → Prop} {Q : Value → Shared → Prop} (b : Begins v o B) (b0 : B s.heap)
    (q : ∀ g, IsEnum g (s.heap.objs.size + 1) s.heap.objs.size 0 .none → g.get? s.heap.objs.size = some o → (∀ c u, s.heap.get? c = some u → g.get? c = some u) → Q (.ref (s.heap.objs.size + 1)) { s with heap := g }) :
    wpAny (model prog w) A (call (.type "enumerate") [v]) Q E s := by
  let en : Obj := { cls := .type "enumerate", data := .fields #[.none, .bool false, .ref s.heap.objs.size, rawInt 0, .none, .none] }
  have m : Meets (Builtin.«enumerate.__new__» ⟨[.type "enumerate", v], []⟩) (fun _ R t => B t.heap ∧ R (.ok (.ret (.ref (t.heap.push o).objs.size)))
      { t with heap := (t.heap.push o).push { cls := .type "enumerate", data := .fields #[.none, .bool false, .ref t.heap.objs.size, rawInt 0, .none, .none] } }) := .of_wp fun prog w A R t ⟨c1, c2⟩ => by
    obtain ⟨hp, gg, dd, tk, os⟩ := t
    have sb := sub_enumerate
    have it : ∀ {A' : Around} {E : Value → Shared → Prop} {Q : Value → Shared → Prop}, Q (.ref hp.objs.size) ⟨hp.push o, gg, dd, tk, os⟩ → wpAny (model prog w) A' (pyIter v) Q E ⟨hp, gg, dd, tk, os⟩ := fun z => b.iter prog w _ _ ⟨hp, gg, dd, tk, os⟩ _ c1 z
    wp_walk
    refine wpAny_stack_any fun st => wpAny_pure ?_
    split
    · rename_i cl _ _ _ _ _
      cases (cl == Value.type "enumerate")
      · wp_walk using it
        exact ⟨_, rfl, c2⟩
      · wp_walk using it
        exact ⟨_, rfl, c2⟩
    · wp_walk using it
      exact ⟨_, rfl, c2⟩
  refine callType_new F.called_enumerate (by decide) (F.typeCall_enumerate_1 _) (F.newCall_enumerate_1 _) (fun x => F.args_object_init_2 x _) F.entry_enumerate_new m ⟨b0, ?_⟩
  have sz : (s.heap.push o).objs.size = s.heap.objs.size + 1 := Heap.size_push ..
  show _ ∧ _
  rw [sz]
  have he : IsEnum ((s.heap.push o).push en) (s.heap.objs.size + 1) s.heap.objs.size 0 .none := by
    have z := Heap.get?_push_size (s.heap.push o) (o := en) rfl
    rw [sz] at z; exact z
  exact ⟨⟨_, he, rfl⟩, q _ he (Heap.get?_push_of_some _ (Heap.get?_push_size _ b.free)) fun c u x => Heap.get?_push_of_some _ (Heap.get?_push_of_some _ x)⟩
def IteT (K : PySem.W.Frag) (a : Addr) : It :=
  ⟨fun i H => ∃ (ys : List V) (y : V), SqT K H a ys ∧ ys[i]? = some y, fun i H v H' => ∃ T y, v = .ref T ∧ H T = none ∧ H' = upd H T (.tup [.int (i : Nat), y]) ∧ ∀ ys, SqT K H a ys → ys[i]? = some y, fun i H => ∃ ys : List V, SqT K H a ys ∧ ys.length ≤ i⟩
theorem tup_ne_iter {h : Heap} {t it i : Nat} {xs : Array Value} (x : h.IsTuple t xs) (y : h.IsTupleIter it t i) : t ≠ it := fun e => by
  obtain ⟨o, h1, h2, _⟩ := x
  obtain ⟨u, k1, k2, _⟩ := y
  subst e
  rw [h1] at k1; cases k1
  rw [h2] at k2
  injection k2 with k2
  exact absurd k2 (by decide)
theorem tup_ne_enum {h : Heap} {t e it : Nat} {i : Int} {old : Value} {xs : Array Value} (x : h.IsTuple t xs) (y : IsEnum h e it i old) : e ≠ t := fun q => by
  obtain ⟨o, h1, h2, _⟩ := x
  subst q
  rw [show h.get? e = _ from y] at h1; cases h1
  injection h2 with h2
  exact absurd h2 (by decide)
theorem turn_enumT {P : Program} {w : World} {K : PySem.W.Frag} {elts : List Expr} {kx : Nat} {tpos : Pos} (a e it : Addr) :
    Turn P w K (.Tuple elts kx tpos) (IteT K a) [e, it] e (fun i h => (∃ old, IsEnum h e it ((i : Nat) : Int) old) ∧ h.IsTupleIter it a i ∧ e ≠ it) where
  mem := List.mem_cons_self ..
  obj := fun i h ⟨⟨old, he⟩, ⟨o, ho, hc, hd⟩, _⟩ b hb => by
    rcases List.mem_cons.mp hb with z | z
    · subst z; exact ⟨_, he, fun v q => nomatch q⟩
    · rw [List.mem_singleton.mp z]; exact ⟨o, ho, fun v q => by rw [hd] at q; cases q⟩
  keep := fun i h h' ⟨⟨old, he⟩, hi, hne⟩ k => ⟨⟨old, k e (by simp) _ he⟩, hi.at fun o q => k it (by simp) o q, hne⟩
  item := by
    intro X hP hw hK hc i pins s σ H E I hf ⟨⟨old, he⟩, hit, hne⟩ ⟨ys, y, hq, hy⟩
    subst hP hw hK
    obtain ⟨its, rv, ⟨o, ho, hcl, n, hda⟩, hz⟩ := I.tuple hq
    obtain ⟨u, hu, ru⟩ := rv.get hy
    have ht : s.heap.IsTuple a its.toArray := ⟨o, ho, hcl, n, hda⟩
    have hl : i < its.toArray.size := by
      have z := (List.getElem?_eq_some_iff.mp hu).1
      simpa using z
    have el : e < s.heap.objs.size := Heap.lt_size he
    have il : it < s.heap.objs.size := by obtain ⟨_, q, _⟩ := hit; exact Heap.lt_size q
    have nea := tup_ne_enum ht he
    refine wpAny_pyNext_enum_itemD (Draws.tuple (A := X.A.in1) (I.ok.hd hc) it a (tup_ne_iter ht hit) its.toArray) he ⟨hit, ht⟩ hl hne (by simp [hne, nea]) fun x h' tk hx ho' ⟨hit', _⟩ hT hsz hk => ?_
    have ex : x = u := by
      have h2 : its[i]? = some x := by simpa using hx
      rw [hu] at h2; exact (Option.some.inj h2).symm
    subst ex
    refine ⟨_, rfl, wpAny_letOwnedTupleGo_enum (s := { s with heap := h', toks := tk + 1 }) ho' fun h2 he2 sb => ?_⟩
    have hT2 : h2.get? s.heap.objs.size = some { cls := .type "tuple", data := .seq #[.int i tk, x] } := (sb.2 _ (Nat.ne_of_gt el)).trans hT
    have ok : ObjOk X.prog X.w (upd H s.heap.objs.size (.tup [.int (i : Nat), y])) h2 s.heap.objs.size (.tup [.int (i : Nat), y]) :=
      ⟨by show 2 ≤ sizeLine; decide, [.int i tk, x], .cons ⟨_, rfl⟩ (.cons ru .nil), ⟨_, hT2, rfl, _, rfl⟩⟩
    have I1 : Inv X pins σ (upd H s.heap.objs.size (.tup [.int (i : Nat), y])) { s with heap := h2, toks := tk + 1 } :=
      I.turnedNew (ch := [e, it]) (fun b ob hb q => (sb.2 b fun z => hb (by simp [z])).trans (hk b ob (fun z => hb (by simp [z])) (fun z => hb (by simp [z])) q)) hf (Nat.le_refl _) ok
    refine ⟨.ref s.heap.objs.size, _, I1, rfl, ⟨_, y, rfl, I.hok.fresh (Nat.le_refl _), rfl, fun zs hz' => by rw [I.tuple_inj hz' hq]; exact hy⟩, ⟨⟨x, ?_⟩, hit'.at fun o q => (sb.2 it (Ne.symm hne)).trans q, hne⟩, fun b hb => ?_⟩
    · rw [show ((i + 1 : Nat) : Int) = (i : Int) + 1 by omega]; exact he2
    · have lt : b < s.heap.objs.size := by
        rcases List.mem_cons.mp hb with z | z
        · subst z; exact el
        · rw [List.mem_singleton.mp z]; exact il
      rw [upd_ne (Nat.ne_of_lt lt)]
      exact (hf b hb).1
  done := by
    intro X hP hw hK hc i pins s σ H E I hf ⟨⟨old, he⟩, hit, hne⟩ ⟨ys, hq, hy⟩
    subst hP hw hK
    obtain ⟨its, rv, ⟨o, ho, hcl, n, hda⟩, hz⟩ := I.tuple hq
    have ht : s.heap.IsTuple a its.toArray := ⟨o, ho, hcl, n, hda⟩
    obtain ⟨f0, f1, f2, f3, f4, f5⟩ := hf it (by simp)
    have hl := rv.length
    have D : Draws X.prog X.w X.A.in1 it [it, a] i (fun _ _ => True) (fun j h => j = i ∧ h.IsTupleIter it a i ∧ h.IsTuple a its.toArray) :=
      ⟨fun j h ⟨_, ⟨o, z, _⟩, _⟩ => ⟨o, z⟩, fun j h h' ⟨z, c1, c2⟩ k => ⟨z, c1.at fun o q => k it (by simp) o q, c2.at fun o q => k a (by simp) o q⟩, fun j s Q E hj ⟨z, _⟩ => absurd hj (by omega),
        fun s Q E ⟨_, c1, c2⟩ hE => wpAny_nextOf_tuple_end (I.ok.hd hc) c1 c2 (by simp; omega) hE⟩
    exact wpAny_pyNext_enum_endD D he ⟨rfl, hit, ht⟩ fun h' eb => ⟨rfl, I.turned (t' := s.toks) (fun b o hb q => eb b o hb q) f0 f1 f3 f4 f5⟩
  self := fun A i s Q E ⟨⟨_, he⟩, _⟩ h => wpAny_pyIter_enum he h
/-- for .. in enumerate(a tuple) -/
def iEnumT (K : PySem.W.Frag) (ta : TA) : TI := fun σ H R => ta σ H fun vs H1 => ∃ a xs, vs = [.ref a] ∧ SqT K H1 a xs ∧ R (IteT K a) H1
theorem pi_enumT {X : Cx} {e : Expr} {ta : TA} {p pos tpos : Pos} {elts : List Expr} {kx : Nat} (hg : Gl X "enumerate") (hm : X.mg "enumerate" = none) (ha : PA X [e] ta) (hs : starEach [e] X.env = [(false, eval e X.env)] := by rfl) :
    PI X (.Tuple elts kx tpos) (.Call (.Name "enumerate" p) [e] [] pos) (iEnumT X.K ta) := by
  refine ⟨fun pins s σ H R I h => ?_⟩
  refine Call_ (ld_blt I hg hm boot_enumerate (PyProof.Rows.callWith_type1 (thn (ha.run pos pins s σ H _ I h) fun us s1 ⟨vs, H1, I1, r1, a, xs, ex, hq, q⟩ => ?_) hs rfl))
  subst ex
  obtain ⟨u, rfl, ru⟩ := r1.one
  cases ru
  obtain ⟨its, rv, ⟨o, ho, hcl, n, hda⟩, hz⟩ := I1.tuple hq
  refine enum_one (begins_tuple a its.toArray) ⟨o, ho, hcl, n, hda⟩ fun g he hit hk => wpAny_pyIter_enum he ?_
  have I2 : Inv X pins σ H1 { s1 with heap := g } := I1.kept (t' := s1.toks) hk
  refine ⟨s1.heap.objs.size + 1, [s1.heap.objs.size + 1, s1.heap.objs.size], _, _, H1, rfl, I2, turn_enumT a (s1.heap.objs.size + 1) s1.heap.objs.size, ⟨⟨.none, he⟩, ⟨_, hit, rfl, rfl⟩, Nat.succ_ne_self _⟩, fun b hb => ?_, q⟩
  have lo : s1.heap.objs.size ≤ b := by
    rcases List.mem_cons.mp hb with z | z
    · rw [z]; exact Nat.le_succ _
    · rw [List.mem_singleton.mp z]; exact Nat.le_refl _
  exact I1.fpOk lo (I1.hok.fresh lo)
theorem walk_enumT {K : PySem.W.Frag} {a : Addr} {ys : List V} : Walk (IteT K a) ys.length (fun H => SqT K H a ys) (YPair (fun i => some (.int (i : Nat))) (fun i => ys[i]?)) :=
  ⟨fun i _ hi q => ⟨ys, ys[i], q, by simp [hi]⟩, fun _ q => ⟨ys, q, Nat.le_refl _⟩, fun i H v H' _ q ⟨T, x, h1, h2, h3, h4⟩ => ⟨T, .int (i : Nat), x, h1, h2, h3, rfl, h4 ys q⟩⟩
section
variable {X : Cx} {kk : Dek} {W : Wd kk} {e : Expr} {ta : DTA} {p pos tpos : Pos}
def dIEnumT (ta : DTA) : DIT := fun S P => ta S fun ds S1 => match ds with
  | [.tup a] => P (enumD a) S1
  | _ => False
theorem di_enumT {elts : List Expr} {k0 : Nat} (hg : Gl X "enumerate") (hm : X.mg "enumerate" = none) (ha : DA X W [e] ta) (hs : starEach [e] X.env = [(false, eval e X.env)] := by rfl) : DI X W (.Tuple elts k0 tpos) (.Call (.Name "enumerate" p) [e] [] pos) (dIEnumT ta) := by
  refine pi_imp (pi_enumT hg hm ha hs) fun σ H R ⟨G, S, P, Rp, p, q⟩ => ?_
  refine ⟨G, S, _, Rp, p, fun ds S1 p1 vs H1 G1 s1 R1 d1 => ?_⟩
  match ds, d1, p1 with
  | [.tup a], .cons (.tup h1 h2) .nil, p1 =>
    refine ⟨_, _, rfl, SqT.of (R1.gh _ _ h1), q _ S1 p1 H1 G1 s1 R1 _ _ _ (by rw [enumD, List.length_map, List.length_zipIdx, ← dva_len h2]; exact walk_enumT) (fun H2 s2 => SqT.of (s2 _ _ h1)) fun i H2 x H3 hi y => ?_⟩
    obtain ⟨T, u, v, ex, hT, eH, eu, ev⟩ := y
    cases eu
    obtain ⟨d, ed, dd⟩ := dva_get h2 ev
    refine ⟨.tup [.int (i : Nat), d], ?_, pair_comes ex hT eH (.int _) dd⟩
    unfold enumD
    rw [List.getElem?_map, List.getElem?_zipIdx, ed]; simp
end
end Dl
namespace Dl
open PySem PySem.Spec PyProof.Rows L2 Sw Ss
/-! ### a tuple times a number -/
def dMulT (x y : D) (P : D → Prop) : Prop := match x, y with
  | .tup a, .int j => (a ≠ [] ∧ 2 ≤ j ∧ j ≤ 1000 ∧ a.length ≤ 1000) ∧ P (.tup (List.replicate j.toNat a).flatten)
  | _, _ => False
theorem do_op_mulT {X : Cx} {kk : Dek} {W : Wd kk} : DOp X W (binaryOp .Mult) dMulT := by
  refine ⟨_, op_repT (X := X), fun G H σ S v w x y P Q R hv hw h q => ?_⟩
  cases x with
  | tup a =>
    cases y with
    | int j =>
      cases hw
      cases hv with
      | @tup pa xs _ h1 h2 =>
        obtain ⟨⟨b0, b1, b2, b3⟩, p⟩ := h
        have l := dva_len h2
        refine ⟨pa, j, xs, rfl, rfl, SqT.of (R.gh _ _ h1), fun e => b0 (len_nil l e), b1, b2, by omega, fun p' hp => ?_⟩
        have g := same_upd (o := .tup (List.replicate j.toNat xs).flatten) (R.gh.free hp)
        exact q _ p _ _ _ g (R.new hp) (.tup upd_same (DvAll.up g _ _ (dva_rep h2 _)))
    | _ => exact h.elim
  | _ => exact h.elim
/-- a def's arguments by name -/
theorem kb_n {K : PySem.W.Frag} {x q : Str} {pa : Arguments} {bo : List Stmt} {sc : Scope} {f : Addr} {fd : FuncData} {ps ks : List Str} {n : Nat} {g : List Value → List Value → List Value} {gV : List V → List V → List V} (F : FunD K x q pa bo sc [] [] f fd)
    (hrel : ∀ {vs : List V} {us : List Value} {zs : List V} {ws : List Value}, Vals vs us → Vals zs ws → Vals (gV vs zs) (g us ws))
    (h : ∀ (kV doc pm : Value) (an : Option Addr) (cv ct : Value) (us ws : List Value), us.length = n → ws.length = ks.length → bindArgs (PySem.W.fnOf x q pa bo sc .none kV doc pm an cv ct) ⟨us, ks.zip ws⟩ = pure (ps.zip (g us ws))) : KBn K fd ps n ks g gV := by
  obtain ⟨oc, od, dV, kV, doc, pm, an, cv, ct, osl, rfl, lk, hco, hD, _⟩ := F.ex
  rcases hD with ⟨_, rfl⟩ | ⟨e, _⟩
  · exact ⟨fun s us ws X l1 l2 => .of_eq (h kV doc pm an cv ct us ws l1 l2), hrel⟩
  · exact absurd rfl e
theorem vals_app {vs : List V} {us : List Value} {zs : List V} {ws : List Value} (h1 : Vals vs us) (h2 : Vals zs ws) : Vals (vs ++ zs) (us ++ ws) := by
  induction h1 with
  | nil => exact h2
  | cons a _ ih => exact .cons a ih
theorem vals_rev {vs : List V} {us : List Value} (h : Vals vs us) : Vals vs.reverse us.reverse := by
  induction h with
  | nil => exact .nil
  | cons a _ ih => rw [List.reverse_cons, List.reverse_cons]; exact vals_app ih (.cons a .nil)
/-- a statement, then the rest, by what stands between them -/
theorem seqS {t u : DST} {E : DEnds} {S : Ds} (Mid : Ds → Prop) (h1 : ∀ N : Ds → Prop, (∀ S', Mid S' → N S') → t { E with nx := N } S) (h2 : ∀ S', Mid S' → u E S') : dSeq t u E S := h1 (u E) h2
theorem seqE {t u : DST} {E : DEnds} {S : Ds} (S1 : Ds) (h1 : ∀ N : Ds → Prop, N S1 → t { E with nx := N } S) (h2 : u E S1) : dSeq t u E S := h1 (u E) h2
theorem gN_go {i : Nat} {d : D} {S : Ds} {P : Ds → Prop} (h : P ⟨setS S.ρ i (some (.v d)), S.dr⟩) : gN i d S P := h
end Dl
namespace Dl
open PySem PySem.Spec PyProof.Rows L2 Sw Ss
/-! ### len(o), str(o), by own methods -/
section
variable {prog : Program} {w : World} {A : Around} {E : Value → Shared → Prop} {s : Shared} {K : PySem.W.Frag} {x C f : Addr} {ox : Obj} {od : Option Obj}
theorem len_own {Q : Value → Shared → Prop} (X : K.In s.heap) (I : PySem.W.InstAt s.heap x ox C od) (hs : PySem.W.findIn K (.ref C) "__len__" = some (some (.ref f))) (hf : PySem.W.isFn K (.ref f) = true)
    (h : wpAny (model prog w) A.in1 (call (.ref f) [.ref x]) (fun v s' => ∃ i t, v = .int i t ∧ 0 ≤ i ∧ i < 2 ^ 62 ∧ ∀ t tk, Q (.int i t) { s' with toks := tk }) E s) : wpAny (model prog w) A (call (.builtin "len") [.ref x]) Q E s := by
  refine Calls.call_function_entry kind_len plain_len entry_len (args_len1 _) ?_
  unfold Builtin.«len»
  refine wpAny_bind (m := oneArg "len" _) (wpAny_pure ?_)
  refine wpAny_bind (m := callSpecial? (.ref x) (Str.ofString "__len__")) (PySem.W.special_fn X I hs (beq_iff_eq.mp hf) (wpAny_mono h (fun r s' hr => ?_) fun _ _ y => y))
  obtain ⟨i, t, rfl, h0, h1, hq⟩ := hr
  refine wpAny_bind (wpAny_holding (wpAny_pure ?_))
  refine wpAny_bind (wpAny_letGo ?_)
  show wpAny _ _ (if i < 0 then _ else _) _ _ _
  rw [if_neg (by omega)]
  show wpAny _ _ (if i ≥ 2 ^ 63 then _ else _) _ _ _
  rw [if_neg (by omega)]
  exact wpAny_bind (wpAny_mkInt (wpAny_pure ⟨_, rfl, hq _ _⟩))
end
section
variable {X : Cx} {kk : Dek} {W : Wd kk} {l : Nat} {f C : Addr} {fd : FuncData} {ps : List Str}
def rLenI (K : PySem.W.Frag) (C : Addr) (sp : Sp) : List V → Hp → VK → Prop := fun xs H Q => ∃ a dx fs, xs = [.ref a] ∧ H a = some (.ins C dx fs) ∧ sp [.ref a] H (fun v H' => ∃ i, v = .int i ∧ 0 ≤ i ∧ i < 2 ^ 62 ∧ Q (.int i) H') E0
theorem cr_lenI {sp : Sp} (F : FnOk X.prog X.w X.K X.mg X.base CX0 l f fd ps sp) (hr : Room (l + 1) X.A) (hs : PySem.W.findIn X.K (.ref C) "__len__" = some (some (.ref f))) (hf : PySem.W.isFn X.K (.ref f) = true) (hb : Binds X.K fd ps []) : CallR X (.builtin "len") (rLenI X.K C sp) := by
  intro pins s σ H xs us Q I r ⟨a, dx, fs, ex, ha, q⟩
  subst ex
  obtain ⟨u, rfl, ru⟩ := vals1 r
  obtain rfl : u = Value.ref a := ru
  obtain ⟨mA, J, _⟩ := ins_get I.hok ha
  obtain ⟨od, J, _⟩ := J.look
  refine len_own I.kIn J hs hf ?_
  have hl : [Value.ref a].length = ps.length := by
    rw [← F.len _ _ _ _ q]; rfl
  refine wpAny_call (codeAny_mono (F.run X.A.in1 X.stack s H ⟨[.ref a], []⟩ [.ref a] [.ref a] _ E0 hr.in1 I.env0.in1 (hb _ [.ref a] I.kIn hl) (.cons rfl .nil) q) fun r s' hq => ?_)
  cases r with
  | error er => exact False.elim hq
  | ok fl =>
    cases fl with
    | ret u =>
      obtain ⟨v, H', I3, rv, i, rfl, h0, h1, q3⟩ := I.after hq
      obtain ⟨t, rfl⟩ := rv
      exact ⟨i, t, rfl, h0, h1, fun t' tk => ⟨.int i, H', I3.tok _, ⟨_, rfl⟩, q3⟩⟩
    | next => exact False.elim hq
    | brk => exact False.elim hq
    | cont => exact False.elim hq
def rStrI (K : PySem.W.Frag) (C : Addr) (sp : Sp) : List V → Hp → VK → Prop := fun xs H Q => ∃ a dx fs, xs = [.ref a] ∧ H a = some (.ins C dx fs) ∧ sp [.ref a] H (fun v H' => ∃ z, v = .str z ∧ Q (.str z) H') E0
theorem cr_strI {sp : Sp} (F : FnOk X.prog X.w X.K X.mg X.base CX0 l f fd ps sp) (hr : Room (l + 2) X.A) (hs : PySem.W.findIn X.K (.ref C) "__str__" = some (some (.ref f))) (hf : PySem.W.isFn X.K (.ref f) = true) (hb : Binds X.K fd ps []) : CallR X (.type "str") (rStrI X.K C sp) := by
  intro pins s σ H xs us Q I r ⟨a, dx, fs, ex, ha, q⟩
  subst ex
  obtain ⟨u, rfl, ru⟩ := vals1 r
  obtain rfl : u = Value.ref a := ru
  obtain ⟨mA, J, _⟩ := ins_get I.hok ha
  obtain ⟨od, J, _⟩ := J.look
  have hu := hr.in1.in1.units
  refine PySem.W.kso_call (by omega) I.kIn J hs hf ?_
  have hl : [Value.ref a].length = ps.length := by
    rw [← F.len _ _ _ _ q]; rfl
  refine wpAny_call (codeAny_mono (F.run X.A.in1.in1 X.stack s H ⟨[.ref a], []⟩ [.ref a] [.ref a] _ E0 hr.in1.in1 I.env0.in1.in1 (hb _ [.ref a] I.kIn hl) (.cons rfl .nil) q) fun r s' hq => ?_)
  cases r with
  | error er => exact False.elim hq
  | ok fl =>
    cases fl with
    | ret u =>
      obtain ⟨v, H', I3, rv, z, rfl, q3⟩ := I.after hq
      obtain ⟨t, rfl⟩ := rv
      exact ⟨.str z, H', I3, ⟨_, rfl⟩, q3⟩
    | next => exact False.elim hq
    | brk => exact False.elim hq
    | cont => exact False.elim hq
variable {a e : Expr} {es : List Expr} {ta : DT} {sp : DSp} {p pos : Pos}
def dLenI (C : Addr) (sp : DSp) (ta : DT) : DT := fun S P => ta S fun x S1 => (∃ ns ds, x = .ins C ns ds) ∧ sp [x] S1.dr fun d n => ∃ i, d = .int i ∧ 0 ≤ i ∧ i < 2 ^ 62 ∧ P (.int i) ⟨S1.ρ, n⟩
theorem de_lenI (F : FnK X.prog X.w X.K X.mg X.base l f fd ps kk sp) (hr : Room (l + 1) X.A) (hs : PySem.W.findIn X.K (.ref C) "__len__" = some (some (.ref f))) (hf : PySem.W.isFn X.K (.ref f) = true) (hb : Binds X.K fd ps [])
    (hg : Gl X "len") (hm : X.mg "len" = none) (ha : DE X W a ta) (he : starEach [a] X.env = (false, eval a X.env) :: starEach [] X.env := by rfl) : DE X W (.Call (.Name "len" p) [a] [] pos) (dLenI C sp ta) := by
  refine pe_imp (pe_callB (cr_lenI F hr hs hf hb) hg hm (by decide +kernel) (pa_cons ha pa_nil he) (by decide) (by decide) he) fun σ H Q ⟨G, S, P, R, p, q⟩ => ?_
  refine ⟨G, S, _, R, p, fun x S1 ⟨⟨ns, ds, ex⟩, p1⟩ v H1 G1 s1 R1 d1 => ?_⟩
  subst ex
  cases d1 with
  | @ins b _ dx fs _ h1 h2 =>
    refine ⟨b, dx, fs, rfl, R1.gh _ _ h1, ?_⟩
    refine after_call (P := fun d S' => ∃ i, d = .int i ∧ 0 ≤ i ∧ i < 2 ^ 62 ∧ P (.int i) S') R1 (.cons (.ins h1 h2) .nil) p1 fun d S3 ⟨i, ed, h0, h3, p3⟩ v H3 G3 s3 R3 dv3 => ?_
    subst ed
    cases dv3
    exact ⟨i, rfl, h0, h3, q _ S3 p3 _ H3 G3 (s1.trans s3) R3 (.int _)⟩
def dStrI (C : Addr) (sp : DSp) (ta : DT) : DT := fun S P => ta S fun x S1 => (∃ ns ds, x = .ins C ns ds) ∧ sp [x] S1.dr fun d n => ∃ z, d = .str z ∧ P (.str z) ⟨S1.ρ, n⟩
theorem de_strI (F : FnK X.prog X.w X.K X.mg X.base l f fd ps kk sp) (hr : Room (l + 2) X.A) (hs : PySem.W.findIn X.K (.ref C) "__str__" = some (some (.ref f))) (hf : PySem.W.isFn X.K (.ref f) = true) (hb : Binds X.K fd ps [])
    (hg : Gl X "str") (hm : X.mg "str" = none) (ha : DE X W a ta) (he : starEach [a] X.env = (false, eval a X.env) :: starEach [] X.env := by rfl) : DE X W (.Call (.Name "str" p) [a] [] pos) (dStrI C sp ta) := by
  refine pe_imp (pe_callTy (cr_strI F hr hs hf hb) hg hm (by decide +kernel) (pa_cons ha pa_nil he) (by decide) (by decide) he) fun σ H Q ⟨G, S, P, R, p, q⟩ => ?_
  refine ⟨G, S, _, R, p, fun x S1 ⟨⟨ns, ds, ex⟩, p1⟩ v H1 G1 s1 R1 d1 => ?_⟩
  subst ex
  cases d1 with
  | @ins b _ dx fs _ h1 h2 =>
    refine ⟨b, dx, fs, rfl, R1.gh _ _ h1, ?_⟩
    refine after_call (P := fun d S' => ∃ z, d = .str z ∧ P (.str z) S') R1 (.cons (.ins h1 h2) .nil) p1 fun d S3 ⟨z, ed, p3⟩ v H3 G3 s3 R3 dv3 => ?_
    subst ed
    cases dv3
    exact ⟨z, rfl, q _ S3 p3 _ H3 G3 (s1.trans s3) R3 (.str _)⟩
end
end Dl
namespace Dl
open PySem PySem.Spec PyProof.Rows L2 L2H Sw
def fldN : List Str := ["part", "place", "paper", "drift", "text", "loop", "rest", "other", "answer", "index", "name"]
def exB : List Value := [.type "Exception", .type "BaseException", .type "object"]
def xcB (K : PySem.W.Frag) (C : Addr) : Bool := PySem.W.excInitIn K C exB "Exception.__new__" && (PySem.W.excOver K C exB && (PySem.W.hasDictIn K C && (PySem.W.keepIn K (.ref C) && (He.eqO (PySem.W.findIn K (.ref C) "__setattr__") (some (some (.builtin "object.__setattr__"))) &&
  (He.eqO (PySem.W.findIn K (.ref C) "__getattribute__") (some (some (.builtin "BaseException.__getattribute__"))) && (He.eqO (PySem.W.findIn K (.ref C) "__getattr__") (some none) && (He.eqO (PySem.W.findIn K (.ref C) "__class__") (some (some (.builtin "object.__class__"))) &&
  (decide (PySem.W.subIn K (.ref C) (.type "BaseException") = some true) && (decide (PySem.W.typeIn K (.ref C) = some (.type "type")) && (decide (PySem.W.mroIn K C (.type "object") = some true) && fldN.all fun f => He.eqO (PySem.W.findIn K (.ref C) f) (some none)))))))))))
structure XcC (K : PySem.W.Frag) (C : Addr) : Prop where
  mkr : PySem.W.excInitIn K C exB "Exception.__new__" = true
  ov : PySem.W.excOver K C exB = true
  hd : PySem.W.hasDictIn K C = true
  kp : PySem.W.keepIn K (.ref C) = true
  sa : PySem.W.findIn K (.ref C) "__setattr__" = some (some (.builtin "object.__setattr__"))
  ga : PySem.W.findIn K (.ref C) "__getattribute__" = some (some (.builtin "BaseException.__getattribute__"))
  gg : PySem.W.findIn K (.ref C) "__getattr__" = some none
  cl : PySem.W.findIn K (.ref C) "__class__" = some (some (.builtin "object.__class__"))
  ex : PySem.W.subIn K (.ref C) (.type "BaseException") = some true
  ty : PySem.W.typeIn K (.ref C) = some (.type "type")
  mo : PySem.W.mroIn K C (.type "object") = some true
  no : ∀ f ∈ fldN, PySem.W.findIn K (.ref C) f = some none
theorem xc_ok {K : PySem.W.Frag} {C : Addr} (h : xcB K C = true) : XcC K C := by
  unfold xcB at h
  simp only [Bool.and_eq_true, decide_eq_true_eq, List.all_eq_true] at h
  obtain ⟨h1, h2, h3, h4, h5, h6, h7, h8, h9, h10, h11, h12⟩ := h
  exact ⟨h1, h2, h3, h4, He.eqO_ok h5, He.eqO_ok h6, He.eqO_ok h7, He.eqO_ok h8, h9, h10, h11, fun f hf => He.eqO_ok (h12 f hf)⟩
/-! ### the stores of an __init__ -/
section
open Builtin Builtin.ObjectAttr PySem.W PySem.Calls PySem.HandSPX
variable {prog : Program} {w : World} {A : Around} {R : Result → Shared → Prop} {hp : Heap} {g : Array GenState} {d : Drawn} {t : Nat} {os : OsState}
theorem put_first {K : W.Frag} {name : Str} {tk : Tok} {v : Value} {x C t0 : Addr} (X : K.In hp) (T : XcC K C) (hx : hp.get? x = some (excO C t0)) (ha : W.findIn K (.ref C) name = some none)
    (hq : ∀ h' tk' dx, (∀ b o, b ≠ x → hp.get? b = some o → h'.get? b = some o) → hp.objs.size ≤ dx → dx ≠ x → h'.get? x = some ({ cls := .ref C, dict := some dx, data := .fields #[.ref t0, .none, .none, .none, .bool false, .none] } : Obj) →
      h'.Ns1 dx (fun y => if y = name then some v else none) → R (.ok (.ret .none)) ⟨h', g, d, tk', os⟩) :
    codeAny (model prog w) A (.call (.builtin "object.__setattr__") ⟨[.ref x, .str name tk, v], []⟩) R ⟨hp, g, d, t, os⟩ := by
  have tk0 : takerIn K C name = some none := by unfold takerIn; rw [ha]; rfl
  refine osa_openX (s := ⟨hp, g, d, t, os⟩) (od := none) F.store_Exception X ⟨hx, rfl, rfl, trivial⟩ T.ov tk0 fun b => ?_
  obtain ⟨cd, hc, hd'⟩ := any_some T.hd
  have hcls : W.Looks (model prog w) hp (classData C) cd := W.looks_clsIn X hc
  have hxs : x ≠ hp.objs.size := Nat.ne_of_lt (Heap.lt_size hx)
  obtain ⟨nm, bs, mro, ns, qn, hd, sn, sb, ab, col, del⟩ := cd
  (try dsimp only at hd')
  subst hd'
  unfold storeInOwnDict ownDictForStores
  repeat (first | with_reducible refine store_in_new ?_ ?_ | with_reducible refine wpAny_loadPart_at hx ?_ | with_reducible refine hcls.at ?_ | wp_step)
  · exact ⟨_, #[], _, (Heap.get?_update_ne _ _ _ _ hxs.symm).trans (Heap.get?_push_at rfl rfl), rfl, fun e he => absurd he (by simp), fun _ => rfl⟩
  · intro h' tk' hn' hs
    have hx1 : (hp.push { cls := .type "dict", data := .dict #[] }).get? x = some (excO C t0) := Heap.get?_push_of_some _ hx
    refine hq h' tk' hp.objs.size (fun b o hb ho => ?_) (Nat.le_refl _) hxs.symm ?_ hn'
    · exact (hs.2 b (Nat.ne_of_lt (Heap.lt_size ho))).trans ((Heap.get?_update_ne _ _ _ _ hb).trans (Heap.get?_push_of_some _ ho))
    · exact (hs.2 x hxs).trans (Heap.get?_update_self _ hx1 rfl)
theorem put_more {K : W.Frag} {name : Str} {tk : Tok} {v : Value} {x C t0 dx : Addr} {m0 : Str → Option Value} {nl : List Str} (X : K.In hp) (T : XcC K C)
    (hx : hp.get? x = some ({ cls := .ref C, dict := some dx, data := .fields #[.ref t0, .none, .none, .none, .bool false, .none] } : Obj)) (ha : W.findIn K (.ref C) name = some none) (hns : hp.Ns1 dx m0) (hw : Within m0 nl) (hz : nl.length ≤ 1000)
    (hq : ∀ h' tk', (∀ b o, b ≠ dx → hp.get? b = some o → h'.get? b = some o) → h'.Ns1 dx (fun y => if y = name then some v else m0 y) → R (.ok (.ret .none)) ⟨h', g, d, tk', os⟩) :
    codeAny (model prog w) A (.call (.builtin "object.__setattr__") ⟨[.ref x, .str name tk, v], []⟩) R ⟨hp, g, d, t, os⟩ := by
  have tk0 : takerIn K C name = some none := by unfold takerIn; rw [ha]; rfl
  obtain ⟨oD, esD, epD, hoD, hdD, _⟩ := hns.count hw
  refine osa_openX (s := ⟨hp, g, d, t, os⟩) (od := some oD) F.store_Exception X ⟨hx, rfl, rfl, hoD⟩ T.ov tk0 fun b => ?_
  obtain ⟨cd, hc, hd'⟩ := any_some T.hd
  have hcls : W.Looks (model prog w) hp (classData C) cd := W.looks_clsIn X hc
  obtain ⟨nm, bs, mro, ns, qn, hd, sn, sb, ab, col, del⟩ := cd
  (try dsimp only at hd')
  subst hd'
  unfold storeInOwnDict ownDictForStores
  repeat (first | with_reducible refine OEX.store_in_old hns hw hz ?_ | with_reducible refine wpAny_loadPart_at hx ?_ | with_reducible refine hcls.at ?_ | wp_step)
  intro h' tk' hn' hs
  exact hq h' tk' (fun b o hb ho => (hs.2 b hb).trans ho) hn'
end
section
variable {X : Cx} {pins : List (Addr × Obj)} {σ : L2.St} {H : Hp} {s : Shared} {a C dx : Addr} {f : Str} {y : V} {u : Value} {fs : List (Str × V)} {Q : Unit → Shared → Prop} {E : Value → Shared → Prop} {A : Around}
/-- self.f = y on an error without fields yet -/
theorem st_first (T : XcC X.K C) (I : Inv X pins σ H s) (e : H a = some (exo a C none)) (hno : PySem.W.findIn X.K (.ref C) f = some none) (ry : RelV y u)
    (h : ∀ dx s', H dx = none → dx ≠ a → Inv X pins σ (upd (upd H dx (exd dx [(f, y)])) a (exo a C (some dx))) s' → Q () s') : wpAny (model X.prog X.w) A (setAttr (.ref a) f u) Q E s := by
  obtain ⟨t0, ho⟩ := exo_at I.hok e
  obtain ⟨hp, g, d, t, os⟩ := s
  refine PySem.W.set_plain I.kIn (ox := PySem.HandSPX.excO C t0) (od := none) ⟨ho, rfl, rfl, trivial⟩ T.sa (put_first I.kIn T ho hno fun h' tk' dx k hfr hne hx hn => ?_)
  have dfree : H dx = none := I.hok.fresh hfr
  have low : ∀ {b : Addr} {o : Obj}, hp.get? b = some o → b ≠ dx := fun {b o} q => Nat.ne_of_lt (Nat.lt_of_lt_of_le (Heap.lt_size q) hfr)
  have off : ∀ {b : Addr}, H b = none → b ≠ a := fun {b} n z => by rw [z, e] at n; cases n
  refine h dx _ dfree hne (I.un (t' := tk') (show Un X.fs [] H (upd (upd H dx (exd dx [(f, y)])) a (exo a C (some dx))) hp h' from
    { keep := fun b o q n _ _ => k b o (off n) q
      slot := fun b o q n _ _ => ⟨o.slots, k b o (off n) q⟩
      free := fun b o q n _ => by rw [upd_ne (off n), upd_ne (low q)]; exact n
      there := fun b o q _ => by
        by_cases hb : b = a
        · subst hb; exact ⟨_, hx⟩
        · exact ⟨o, k b o hb q⟩
      tups := fun b xs q => by rw [upd_ne (at_ne e q exo_tup), upd_ne (ne_of_none q dfree)]; exact q
      frzs := fun b o v q => by rw [upd_ne (at_ne e q exo_frz), upd_ne (ne_of_none q dfree)]; exact q
      tbls := fun b ps q => ⟨#[], by rw [upd_ne (at_ne e q exo_tbl), upd_ne (ne_of_none q dfree), q]; simp⟩ }) fun b o q => ?_)
  by_cases hb : b = a
  · subst hb
    rw [upd_same] at q
    cases q
    exact exo_ok hx
  · rw [upd_ne hb] at q
    by_cases hd : b = dx
    · subst hd
      rw [upd_same] at q
      cases q
      exact exd_ok hn (relO_put (fs := []) ry fun g => True.intro)
    · rw [upd_ne hd] at q
      refine (I.hok b o q).stay (fun c v hc z => k c v ?_ z) (fun c hc => ?_) fun c xs hc => ?_
      · rcases hc with hc | hc
        · rw [hc]; exact hb
        · exact at_ne e hc exo_own
      · rw [upd_ne (at_ne e hc exo_own), upd_ne (ne_of_none hc dfree)]; exact hc
      · rw [upd_ne (at_ne e hc exo_tup), upd_ne (ne_of_none hc dfree)]; exact hc
/-- .. and a further one -/
theorem st_more (T : XcC X.K C) (I : Inv X pins σ H s) (e : H a = some (exo a C (some dx))) (ed : H dx = some (exd dx fs)) (hl : fs.length ≤ 900) (hno : PySem.W.findIn X.K (.ref C) f = some none) (ry : RelV y u)
    (h : ∀ s', Inv X pins σ (upd H dx (exd dx ((f, y) :: fs))) s' → Q () s') : wpAny (model X.prog X.w) A (setAttr (.ref a) f u) Q E s := by
  obtain ⟨t0, ho⟩ := exo_at I.hok e
  obtain ⟨mA, hns, rel⟩ := exd_at I.hok ed
  have hw := within_of rel
  obtain ⟨hp, g, d, t, os⟩ := s
  obtain ⟨oD, _, _, hoD, _, _⟩ := hns.count hw
  refine PySem.W.set_plain I.kIn (ox := { cls := .ref C, dict := some dx, data := .fields #[.ref t0, .none, .none, .none, .bool false, .none] }) (od := some oD) ⟨ho, rfl, rfl, hoD⟩ T.sa
    (put_more I.kIn T ho hno hns hw (by rw [List.length_map]; omega) fun h' tk' k hn => ?_)
  have hd : ∃ o, h'.get? dx = some o := let ⟨o, _, _, e', _⟩ := hn; ⟨o, e'⟩
  exact h _ (I.write (t' := tk') (x := dx) (e := dx) (o := exd dx ((f, y) :: fs)) (by rw [ed]; exact True.intro) (.inl rfl) k hd (exd_ok hn (relO_put ry rel)))
end
/-- self.f = e in an __init__ of an error -/
def tXst (K : PySem.W.Frag) (f : Str) (to te : TE) : TS := fun D σ H => te σ H fun y H1 => to σ H1 fun x H2 => ∃ a C : Addr, x = .ref a ∧ XcC K C ∧ f ∈ fldN ∧
  ((H2 a = some (exo a C none) ∧ ∀ dx, H2 dx = none → dx ≠ a → D.nx σ (upd (upd H2 dx (exd dx [(f, y)])) a (exo a C (some dx)))) ∨
    ∃ (dx : Addr) (fs : List (Str × V)), H2 a = some (exo a C (some dx)) ∧ H2 dx = some (exd dx fs) ∧ fs.length ≤ 900 ∧ D.nx σ (upd H2 dx (exd dx ((f, y) :: fs))))
theorem ps_xst {X : Cx} {o e : Expr} {to te : TE} {f : Str} {p' pos : Pos} (ho : PE X o to) (he : PE X e te) (hs : swapsWith e (some (.Attribute o f p')) pos.line X.env = pure false := by rfl) : PS X (.Assign [.Attribute o f p'] e pos) (tXst X.K f to te) := by
  refine ⟨fun pins s σ H D I h => ?_⟩
  refine plainObj_wpAny_Assign_Attribute (thn (he.run pins s σ H _ I h) fun v s1 ⟨y, H1, I1, r1, q1⟩ => thn (ho.run pins s1 σ H1 _ I1 q1) fun u s2 ⟨x, H2, I2, r2, a, C, ex, T, hf, q⟩ => ?_) hs
  subst ex
  obtain rfl : u = Value.ref a := r2
  rcases q with ⟨ea, q⟩ | ⟨dx, fs, ea, ed, hl, q⟩
  · exact st_first T I2 ea (T.no f hf) r1 fun dx s' n ne J => ⟨σ, _, J, q dx n ne⟩
  · exact st_more T I2 ea ed hl (T.no f hf) r1 fun s' J => ⟨σ, _, J, q⟩
theorem fn_bind {K : PySem.W.Frag} {h : Heap} {fI : Addr} {M : Model} (X : K.In h) (hf : PySem.W.isFn K (.ref fI) = true) (self : Value) : PySem.W.Looks M h (bindSpecial (.ref fI) self) (.ref fI, [self]) := by
  obtain ⟨o, ho, hc⟩ := Option.map_eq_some_iff.mp (show (K.lookup fI).map (·.cls) = some (.type "function") from beq_iff_eq.mp hf)
  exact PySem.W.exc_bind (X _ _ ho) hc self
section
variable {X : Cx} {k : Nat} {C fI : Addr} {fd : FuncData} {ps ks : List Str} {sp : Sp} {x : Str} {p pos : Pos} {e : Expr} {es : List Expr} {kws : List Keyword} {ta tk : TA} {g : List Value → List Value → List Value} {gV : List V → List V → List V}
/-- C(e, ..), an own error with its own __init__, as a value -/
theorem pe_xmk (T : XcC X.K C) (hi : PySem.W.findIn X.K (.ref C) "__init__" = some (some (.ref fI))) (hf : PySem.W.isFn X.K (.ref fI) = true) (F1 : FnOk X.prog X.w X.K X.mg X.base CX0 k fI fd ps sp) (hr : Room (k + 1) X.A) (hb : Binds X.K fd ps []) (hg : Gl X x) (hm : X.mg x = some (.ref C))
    (ha : PA X (e :: es) ta) (hdb : (x == ("__debug__" : Str)) = false := by decide) (he : starEach (e :: es) X.env = (false, eval e X.env) :: starEach es X.env := by rfl) (hpl : (backTo pos (starEach es X.env)).any (·.1) = false := by rfl) :
    PE X (.Call (.Name x p) (e :: es) [] pos) (fun σ H Q => ta σ H fun vs H1 => vs.length ≤ 1000 ∧ ∀ a, H1 a = none → sp (.ref a :: vs) (upd H1 a (exo a C none)) (fun v H2 => v = .non ∧ Q (.ref a) H2) E0) := by
  refine ⟨fun pins s σ H Q I h => ?_⟩
  refine wpAny_Call_Name_kw (ld_glob I hg hm ?_ hdb)
  refine PySem.W.callWith_K (h₀ := X.base) I.ok.mod.kin T.kp (thn (ha.run pos pins s σ H _ I h) fun us s1 ⟨vs, H1, I1, r1, hz, q1⟩ => ⟨I1.kIn, ?_⟩) he hpl
  show wpAny _ _ (call (.ref C) us) _ _ _
  obtain ⟨nm, N, q, bs, bm, hd, sn, sub, ab, col, dd, k0, k1, k2, k3, k5, hC, hT⟩ := PySem.W.excInit_of I1.kIn T.mkr
  obtain ⟨hp, g, dr, tk, os⟩ := s1
  have hsz : hp.objs.size ≤ hp.objs.size + 1 := Nat.le_succ _
  have hn : H1 (hp.objs.size + 1) = none := I1.hok.fresh hsz
  have kk : ∀ b o, hp.get? b = some o → ((hp.push (PySem.W.kdv_tup us)).push (PySem.HandSPX.excO C hp.objs.size)).get? b = some o := fun b o e => Heap.get?_push_of_some _ (Heap.get?_push_of_some _ e)
  have hget : ((hp.push (PySem.W.kdv_tup us)).push (PySem.HandSPX.excO C hp.objs.size)).get? (hp.objs.size + 1) = some (PySem.HandSPX.excO C hp.objs.size) := by heap_get
  have J := I1.laid (t' := tk) (a := hp.objs.size + 1) (o := exo (hp.objs.size + 1) C none) (h' := (hp.push (PySem.W.kdv_tup us)).push (PySem.HandSPX.excO C hp.objs.size)) kk hsz (exo_ok hget)
  have hq := q1 (hp.objs.size + 1) hn
  have r2 : Vals (V.ref (hp.objs.size + 1) :: vs) (Value.ref (hp.objs.size + 1) :: us) := .cons rfl r1
  have hl : (Value.ref (hp.objs.size + 1) :: us ++ []).length = ps.length := by
    have e := r2.length
    rw [F1.len _ _ _ _ hq] at e
    rw [List.append_nil]; exact e.symm
  have hus : us.length ≤ sizeLine := by
    have := line_big
    rw [← Paired.length r1]; omega
  have hbt := hb _ (Value.ref (hp.objs.size + 1) :: us) J.kIn hl
  rw [List.append_nil] at hbt
  refine wpAny_call (PySem.HandSPX.call_own F.excBase_Exception hT hC (PySem.W.looks_findIn I1.kIn hi) (fun self => fn_bind I1.kIn hf self) hus
    (codeAny_mono (F1.run _ X.stack _ _ ⟨Value.ref (hp.objs.size + 1) :: us, []⟩ (Value.ref (hp.objs.size + 1) :: us) _ _ _ (hr.make C us []) (J.env0.make C us []) hbt r2 hq) fun r s' hz' => ?_))
  cases r with
  | error er => exact False.elim hz'
  | ok fl =>
    cases fl with
    | ret u =>
      obtain ⟨v, H2, J2, rv, ev, q2⟩ := J.after hz'
      subst ev
      exact ⟨rv, .ref (hp.objs.size + 1), H2, J2, rfl, q2⟩
    | next => exact False.elim hz'
    | brk => exact False.elim hz'
    | cont => exact False.elim hz'
end
theorem ns1_there {h : Heap} {d : Addr} {m : Str → Option Value} (n : h.Ns1 d m) : ∃ o, h.get? d = some o := let ⟨o, _, _, e, _⟩ := n; ⟨o, e⟩
structure XcG (K : PySem.W.Frag) : Prop where
  g : PySem.W.specialIn K (.builtin "object.__class__") "__get__" = some (some (.builtin "getset_descriptor.__get__"))
  t : PySem.W.takesIn K (.builtin "object.__class__") = some true
section
variable {X : Cx} {q : Addr × Obj}
/-- the held error: its class, its dict -/
def Xp (q : Addr × Obj) (H : Hp) (C : Addr) : Prop := q.2.cls = .ref C ∧ (∃ vs, q.2.data = .fields vs) ∧ (q.2.dict = none ∨ ∃ d fs, q.2.dict = some d ∧ H d = some (exd d fs))
theorem Xp.same {q : Addr × Obj} {H H' : Hp} {C : Addr} (x : Xp q H C) (s : Same H H') : Xp q H' C := ⟨x.1, x.2.1, x.2.2.imp id fun ⟨d, fs, h1, h2⟩ => ⟨d, fs, h1, s _ _ h2⟩⟩
theorem call_xisH (G : XcG X.K) (hq : q ∈ X.pn) : CallR X (.builtin "isinstance") (fun xs H Q => ∃ (C : Addr) (c : V) (u : Value) (b : Bool), xs = [.ref q.1, c] ∧ Xp q H C ∧ XcC X.K C ∧ ClsV c u ∧ PySem.W.kitOne X.K (.ref C) u = some b ∧ Q (.bl b) H) := by
  intro pins s σ H xs us Q I r h
  obtain ⟨C, c, u, b, rfl, ⟨x1, ⟨vs, x2⟩, x3⟩, T, k, e, z⟩ := h
  obtain ⟨u1, u2, rfl, r1, r2⟩ := vals2 r
  cases (show u1 = Value.ref q.1 from r1)
  have e2 := k.eq r2
  subst e2
  have get := (I.pin q (List.mem_append_left _ hq)).1
  obtain ⟨od, J⟩ : ∃ od, PySem.W.InstAt s.heap q.1 q.2 C od := by
    rcases x3 with x3 | ⟨d, fs, x3, x4⟩
    · exact ⟨none, get, x1, by unfold PySem.W.notCls; rw [x2] <;> rfl, by rw [x3]; trivial⟩
    · obtain ⟨m, hn, _⟩ := exd_at I.hok x4
      obtain ⟨od, hd⟩ := ns1_there hn
      exact ⟨some od, get, x1, by unfold PySem.W.notCls; rw [x2] <;> rfl, by rw [x3]; exact hd⟩
  have hcl : (PySem.W.clsIn X.K C).isSome = true := by
    obtain ⟨cd, hc, _⟩ := PySem.W.any_some T.hd
    rw [hc]; rfl
  exact PySem.W.kia_one (PySem.W.kitx_exc hcl T.ga T.gg T.ex T.cl G.g G.t T.mo) I.kIn J e (fun z => nomatch z) fun tk => ⟨.bl b, H, I.tok tk, rfl, z⟩
/-- what gives a new own error back is raised -/
theorem pmk_val {t : TE} {K0 : PySem.W.Frag} {H0 : Hp} (hx : X.ex = []) (eK : X.K = K0) (eH : X.H_0 = H0) (he : PE X e t) : L2N.PMk X e (fun σ H Q => t σ H fun x H1 => ∃ a C, x = .ref a ∧ XcC K0 C ∧ Fr0 H0 a ∧
    ((∃ d fs, H1 a = some (exo a C (some d)) ∧ H1 d = some (exd d fs) ∧ Q (.ref C) (some d) (delH H1 a)) ∨ (H1 a = some (ExO (.ref C) a) ∧ Q (.ref C) none (delH H1 a)))) := by
  subst eK eH
  intro pins s σ H Q I h
  refine wpAny_mono (he.run pins s σ H _ I h) (fun u s1 hu => ?_) fun _ _ x => x
  obtain ⟨v, H1, I1, r1, a, C, rfl, T, f0, z⟩ := hu
  cases r1
  rcases z with ⟨d, fs, h1, h2, z⟩ | ⟨h1, z⟩
  · obtain ⟨t0, ho⟩ := exo_at I1.hok h1
    obtain ⟨G, gs, ga, J⟩ := I1.untrack h1 f0 hx
    exact ⟨a, _, _, { s1 with heap := G }, delH H1 a, .ref C, some d, rfl, J, gs, ga, ho, ⟨rfl, rfl, fun vs e => by cases e; rfl⟩, rfl, rfl, delH_same, rfl, I1.bare, raises_own T.ex T.ty, z⟩
  · obtain ⟨⟨oe, vs, ho, hz, hd, k1, k2, _⟩, _⟩ := (show ObjOk X.prog X.w H1 s1.heap a (ExO (.ref C) a) from I1.hok a _ h1)
    obtain ⟨G, gs, ga, J⟩ := I1.untrack h1 f0 hx
    exact ⟨a, oe, vs, { s1 with heap := G }, delH H1 a, .ref C, none, rfl, J, gs, ga, ho, ⟨hz.1, hz.2, fun vs' e => by rw [hd] at e; cases e; exact k2⟩, hd, k1, delH_same, rfl, I1.bare, raises_own T.ex T.ty, z⟩
end
end Dl

namespace Dl
open PySem PySem.Spec PyProof.Rows L2 L2H Sw Ss
section
variable {X : Cx} {CX : CXT} {k n : Nat} {f C : Addr} {fd : FuncData} {ps ks : List Str} {sp : Sp} {E : XK} {x : Str} {p pos : Pos} {e : Expr} {es : List Expr} {kws : List Keyword} {te ta : TE} {t tk : TA} {g : List Value → List Value → List Value} {gV : List V → List V → List V}
/-- C(k = e, ..), keywords alone -/
theorem pe_makeKw (M : Mk X.K C f) (F : FnOk X.prog X.w X.K X.mg X.base CX k f fd ps sp) (hr : Room (k + 1) X.A) (hg : Gl X x) (hm : X.mg x = some (.ref C)) (hb : KBn X.K fd ps 1 ks g gV) (hx : Passes CX X E)
    (hkw : PK X kws tk) (hdb : (x == ("__debug__" : Str)) = false := by decide) (hall : (backToKw pos (keywordEach kws X.env)).all (·.1.isSome) = true := by rfl) (hks : (backToKw pos (keywordEach kws X.env)).filterMap (·.1) = ks := by rfl)
    (hp : ((backTo pos (starEach [] X.env)).any (·.1) || (backToKw pos (keywordEach kws X.env)).any (·.1.isNone)) = false := by rfl) :
    PE X (.Call (.Name x p) [] kws pos) (fun σ H Q => tk σ H fun zs H2 => zs.length = ks.length ∧ ∀ x dx, H2 x = none → H2 dx = none → dx ≠ x → sp (gV [.ref x] zs) (upd (upd H2 dx (.own x)) x (.ins C dx [])) (fun v H3 => v = .non ∧ Q (.ref x) H3) E) := by
  refine ⟨fun pins s σ H Q I h => ?_⟩
  refine wpAny_Call_Name_kw (ld_glob I hg hm ?_ hdb)
  refine PySem.W.callWith_KW0 (h₀ := X.base) I.ok.mod.kin M.kp hall ?_ hp
  refine thn (hkw.run pos pins s σ H _ I h) fun ws s1 ⟨zs, H1, I1, rz, lz, q1⟩ => ⟨I1.kIn, ?_⟩
  rw [hks]
  exact run_makeN (n := 0) (us := []) (vs := []) M F hr hb hx I1 .nil rz rfl lz q1
/-- e.f of the caught error -/
def tXe (a : Addr) (cls : Value) (d : Option Addr) (C : Addr) (f : Str) (te : TE) : TE := fun σ H Q => te σ H fun x H1 => x = .ref a ∧ cls = .ref C ∧ ∃ (dd : Addr) (fs : List (Str × V)) (v : V), d = some dd ∧ H1 dd = some (exd dd fs) ∧ fs.lookup f = some v ∧ Q v H1
theorem pe_xe {a C : Addr} {oe : Obj} {cls : Value} {d : Option Addr} {pn : List (Addr × Obj)} {m : Str} (T : XcC X.K C) (hno : m ∈ fldN)
    (hz : Zc cls d oe) (hf : ∃ vs, oe.data = .fields vs) (he : PE (X.suite a ((a, oe) :: pn)) e te) (hb : attributeBase e m X.env (eval e X.env) = eval e X.env := by rfl) :
    PE (X.suite a ((a, oe) :: pn)) (.Attribute e m pos) (tXe a cls d C m te) := by
  refine ⟨fun pins s σ H Q I h => ?_⟩
  refine attr_of hb (thn (he.run pins s σ H _ I h) fun u s1 hh => ?_)
  obtain ⟨x, H1, I1, rx, ex, ec, dd, fs, v, ed, ea, l, q⟩ := hh
  subst ex
  obtain rfl : u = Value.ref a := rx
  subst ec
  subst ed
  obtain ⟨ha, _⟩ := I1.pin (a, oe) (List.mem_append_left _ List.mem_cons_self)
  obtain ⟨vs, hd⟩ := hf
  obtain ⟨mA, hns, hr⟩ := exd_at I1.hok ea
  obtain ⟨od, ho, hl⟩ := lookIn_ns hns
  obtain ⟨u, hu, ru⟩ := RelO.some_of (v := v) (o := mA m) (by rw [← l]; exact hr m)
  have J : PySem.W.InstAt s1.heap a oe C (some od) := ⟨ha, hz.1, by unfold PySem.W.notCls; rw [hd] <;> rfl, by rw [hz.2]; exact ho⟩
  exact HandSPX.exc_get I1.kIn J T.ga T.gg T.ex (PySem.W.findObj_own T.hd (T.no m hno) rfl (by rw [hl, hu])) (handed_of ru) ⟨v, H1, I1.tok _, ru, q⟩
end
end Dl
namespace Dl
open PySem PySem.Spec PyProof.Rows L2 L2H Sw Ss
/-! ### errors, over data: class, names and values of its fields, the number of draws -/
abbrev XP := Addr → List Str → List D → Int → Prop
def bareS (m : Nat) (n : Int) : Ds := ⟨List.replicate m none, n⟩
theorem getS_none : ∀ {m i : Nat} {s : Sl}, getS (List.replicate m none) i = some s → False
  | 0, _, _, h => by cases h
  | m + 1, 0, _, h => by cases h
  | m + 1, i + 1, s, h => getS_none (m := m) (i := i) (s := s) h
section
variable {kk : Dek} {W : Wd kk} {K : PySem.W.Frag} {G H : Hp} {σ : L2.St} {S : Ds}
theorem Rep.bare (R : Rep W K G H σ S) {σ' : L2.St} {m : Nat} (h : σ'.length = m) : Rep W K G H σ' (bareS m S.dr) :=
  ⟨R.gh, R.bg, R.fr, R.nw, by rw [h]; exact (List.length_replicate ..).symm, fun i s e => (getS_none e).elim, fun i j d e a _ q => (getS_none q).elim, R.dk⟩
def wxD (W : Wd kk) (K : PySem.W.Frag) (m : Nat) (ex : XP) : WX := fun cls d σ H => σ.length = m ∧ ∃ C dd G n fs ds, cls = .ref C ∧ d = some dd ∧ Rep W K G H σ (bareS m n) ∧ H dd = some (exd dd fs) ∧ DvAll K G (fs.map (·.2)) ds ∧ Frsh W G dd ∧ ex C (fs.map (·.1)) ds n
def exD (W : Wd kk) (K : PySem.W.Frag) (m : Nat) (ex : XP) : XK := fun cls d H => ∀ σ : L2.St, σ.length = m → wxD W K m ex cls d σ H
theorem passD {X : Cx} {ex : XP} (tk : L2N.Takes X (wxD W X.K X.N.length ex)) : Passes (L2N.CX X.prog X.w) X (exD W X.K X.N.length ex) :=
  fun pins σ H s e s' I c => tk e s' (L2N.XE.of_call I (fun cls d H' h => h σ I.len) c)
end
/-! ### defs that may raise -/
abbrev DSpX := List D → Int → (D → Int → Prop) → XP → Prop
def spX (K : PySem.W.Frag) (k : Dek) (sp : DSpX) : Sp := fun vs H Q E => ∃ G ds n P X, Same G H ∧ (∀ a ∈ k.dk, G a = none) ∧ k.deck H n ∧ DvAll K G vs ds ∧ sp ds n P X ∧
  (∀ d n', P d n' → ∀ v H' G', Same G G' → Same G' H' → (∀ a o, G' a = some o → G a = some o ∨ (H a = none ∧ a ∉ k.dk)) → (∀ a o, H a = some o → a ∉ k.dk → H' a = some o) → k.deck H' n' → Dv K G' v d → Q v H') ∧
  ∀ C ns es n', X C ns es n' → ∀ dd fs H' G', Same G G' → Same G' H' → (∀ a o, G' a = some o → G a = some o ∨ (H a = none ∧ a ∉ k.dk)) → (∀ a o, H a = some o → a ∉ k.dk → H' a = some o) → k.deck H' n' →
    H' dd = some (exd dd fs) → fs.map (·.1) = ns → DvAll K G' (fs.map (·.2)) es → G' dd = none → H dd = none → E (.ref C) (some dd) H'
def FnX (P : Program) (w : World) (K : PySem.W.Frag) (mg : Str → Option Value) (base : Heap) (l : Nat) (f : Addr) (fd : FuncData) (ps : List Str) (k : Dek) (sp : DSpX) : Prop := FnOk P w K mg base (L2N.CX P w) l f fd ps (spX K k sp)
section
variable {P : Program} {w : World} {K : PySem.W.Frag} {mg : Str → Option Value} {base : Heap} {l : Nat} {f : Addr} {fd : FuncData} {ps : List Str} {k : Dek} {sp : DSpX}
theorem FnX.mono {j : Nat} (F : FnX P w K mg base j f fd ps k sp) (h : j ≤ l) : FnX P w K mg base l f fd ps k sp := FnOk.mono F h
theorem wd_fin {G H : Hp} {hg : ∀ a ∈ k.dk, G a = none} {G' H' : Hp} {σ : L2.St} {S : Ds} (R : Rep (Wd.of k G H hg) K G' H' σ S) :
    (∀ a o, G' a = some o → G a = some o ∨ (H a = none ∧ a ∉ k.dk)) ∧ (∀ a o, H a = some o → a ∉ k.dk → H' a = some o) := by
  refine ⟨fun a o e => ?_, fun a o e m => R.fr a o ?_⟩
  · rcases R.nw a o e with e | ⟨e, m⟩
    · exact .inl e
    · refine .inr ⟨?_, m⟩
      have e : (if a ∈ k.dk then none else H a) = none := e
      exact (if_neg (show a ∉ k.dk from m)).symm.trans e
  · show (if a ∈ k.dk then none else H a) = some o
    exact (if_neg (show a ∉ k.dk from m)).trans e
theorem wd_free {G H : Hp} {hg : ∀ a ∈ k.dk, G a = none} {a : Addr} (e : (Wd.of k G H hg).F a = none) (m : a ∉ k.dk) : H a = none := by
  have e : (if a ∈ k.dk then none else H a) = none := e
  exact (if_neg m).symm.trans e
/-- a def that may raise, by its body over data -/
theorem fnx_of {x q : Str} {pa : Arguments} {bo : List Stmt} {sc : Scope} {N : List Str} (F : FunD K x q pa bo sc [] [] f fd) (S : FnScope N ps sc) (hl : ∀ ds n P X, sp ds n P X → ds.length = ps.length)
    (hbo : ∀ (cv : Value) (A : Around) (out : List Env) (s : Shared) (H : Hp) (E : XK) (W : Wd k) (ds : List D) (n : Int) (Q : D → Int → Prop) (ex : XP), Room l (A.deeper (envOfC q sc s.heap.objs.size f cv)) → sp ds n Q ex →
      L2N.Takes (cxOf (L2N.CX P w) P w K mg base N q sc f cv A out s H E) (wxD W K N.length ex) → (∀ a, W.F a = none → a ∉ k.dk → H a = none) →
      ∃ t, DSs (cxOf (L2N.CX P w) P w K mg base N q sc f cv A out s H E) W bo t ∧ t { nx := fun S => Q .non S.dr, rt := fun d S => Q d S.dr } ⟨startD N ds, n⟩) : FnX P w K mg base (l + 1) f fd ps k sp := by
  have lN : ps.length ≤ N.length := by have := congrArg List.length S.pre; rw [List.length_take] at this; omega
  refine F.ok (CX := L2N.CX P w) S (fun vs H Q E ⟨G, ds, n, P, X, _, _, _, dv, h, _⟩ => (dva_len dv).trans (hl _ _ _ _ h)) fun cv A out s H vs Q E hr ⟨G, ds, n, R, X, sGH, g, dk, dv, h, hQ, qx⟩ => ?_
  have tk : L2N.Takes (cxOf (L2N.CX P w) P w K mg base N q sc f cv A out s H E) (wxD (Wd.of k G H g) K N.length X) := by
    refine (L2N.takes_of rfl rfl rfl (E := E) rfl).imp fun c d σ H' hw => ?_
    obtain ⟨_, C, dd, G', n', fs, es, rfl, rfl, R', hdd, dv', fr, hx⟩ := hw
    obtain ⟨a1, a2⟩ := wd_fin R'
    exact qx C _ es n' hx dd fs H' G' R'.bg R'.gh a1 a2 R'.dk hdd rfl dv' fr.g (wd_free fr.f fr.d)
  obtain ⟨t, ht, hq⟩ := hbo cv A out s H E (Wd.of k G H g) ds n R X hr h tk fun a e m => wd_free e m
  have R0 := rep_start (K := K) (N := N) (by rw [hl _ _ _ _ h]; exact lN) sGH g dk dv
  have fin : ∀ d S' σ H' G' v, Same G G' → R d S'.dr → Rep (Wd.of k G H g) K G' H' σ S' → Dv K G' v d → Q v H' := fun d S' σ H' G' v s' r R' dv' => by
    obtain ⟨a1, a2⟩ := wd_fin R'
    exact hQ d S'.dr r v H' G' s' R'.gh a1 a2 R'.dk dv'
  exact ⟨_, ht, G, _, _, R0, hq, ⟨fun S' σ H' G' s' r R' => fin .non S' σ H' G' .non s' r R' .non, fun d S' σ H' G' v s' r R' dv' => fin d S' σ H' G' v s' r R' dv', fun _ _ _ _ _ z => z.elim, fun _ _ _ _ _ z => z.elim⟩⟩
end
section
variable {X : Cx} {kk : Dek} {W : Wd kk} {l : Nat} {f : Addr} {fd : FuncData} {ps : List Str} {sp : DSpX} {x : Str} {p pos : Pos} {e : Expr} {es : List Expr} {t : DTA} {te : DT} {ex : XP}
def dCallX (sp : DSpX) (ex : XP) (t : DTA) : DT := fun S P => t S fun ds S1 => sp ds S1.dr (fun d n => P d ⟨S1.ρ, n⟩) ex
theorem after_callX {K : PySem.W.Frag} {G H : Hp} {σ : L2.St} {S : Ds} {m : Nat} {ds : List D} {vs : List V} {P : D → Ds → Prop} {Q : VK} (R : Rep W K G H σ S) (dv : DvAll K G vs ds) (h : sp ds S.dr (fun d n => P d ⟨S.ρ, n⟩) ex)
    (q : ∀ d S', P d S' → ∀ v H' G', Same G G' → Rep W K G' H' σ S' → Dv K G' v d → Q v H') : spX K kk sp vs H Q (exD W K m ex) :=
  ⟨G, ds, S.dr, _, _, R.gh, R.gdk, R.dk, dv, h, fun d n' p v H' G' s1 s2 new old dk dv' => q d _ p v H' G' s1 (R.grow s1 s2 new old dk) dv',
    fun C ns es n' xx dd fs H' G' s1 s2 new old dk hdd hns dv' gdd hdn σ' hl => ⟨hl, C, dd, G', n', fs, es, rfl, rfl, (R.grow s1 s2 new old dk).bare hl, hdd, dv', ⟨gdd, R.fr.free hdn, fun m => W.tr H S.dr R.dk dd m hdn⟩, by rw [hns]; exact xx⟩⟩
theorem de_callX (tk : L2N.Takes X (wxD W X.K X.N.length ex)) (F : FnX X.prog X.w X.K X.mg X.base l f fd ps kk sp) (hr : Room l X.A) (hg : Gl X x) (hm : X.mg x = some (.ref f)) (hk : PySem.W.keepIn X.K (.ref f) = true) (hb : Binds X.K fd ps [])
    (ha : DA X W (e :: es) t) (hd : (x == ("__debug__" : Str)) = false := by decide) (he : starEach (e :: es) X.env = (false, eval e X.env) :: starEach es X.env := by rfl)
    (hp : (backTo pos (starEach es X.env)).any (·.1) = false := by rfl) : DE X W (.Call (.Name x p) (e :: es) [] pos) (dCallX sp ex t) := by
  refine pe_imp (pe_call (E := exD W X.K X.N.length ex) F hr hg hm hk hb .nil (passD tk) ha hd he hp) fun σ H Q ⟨G, S, P, R, h, q⟩ => ?_
  refine ⟨G, S, _, R, h, fun ds S1 p1 vs H1 G1 s1 R1 dv => ?_⟩
  show spX X.K kk sp (vs ++ []) H1 Q _
  rw [List.append_nil]
  exact after_callX R1 dv p1 fun d S2 p2 v H2 G2 s2 R2 dv2 => q d S2 p2 v H2 G2 (s1.trans s2) R2 dv2
/-! ### raise B(e) -/
def spBI (K : PySem.W.Frag) (nm : Str) : Sp := fun vs H Q _ => ∃ (a C : Addr) (v : V), vs = [.ref a, v] ∧ XcC K C ∧ H a = some (exo a C none) ∧ ∀ dx, H dx = none → dx ≠ a → Q .non (upd (upd H dx (exd dx [(nm, v)])) a (exo a C (some dx)))
theorem ds_raise1 {CB fI : Addr} {nm : Str} {p3 : Pos} (hc : X.calm = true) (hx : X.ex = []) (tk : L2N.Takes X (wxD W X.K X.N.length ex)) (hF : ∀ a, W.F a = none → a ∉ kk.dk → X.H_0 a = none) (T : XcC X.K CB) (hi : PySem.W.findIn X.K (.ref CB) "__init__" = some (some (.ref fI))) (hf : PySem.W.isFn X.K (.ref fI) = true)
    (F1 : FnOk X.prog X.w X.K X.mg X.base CX0 l fI fd ["self", nm] (spBI X.K nm)) (hr : Room (l + 1) X.A) (hb : Binds X.K fd ["self", nm] []) (hg : Gl X x) (hm : X.mg x = some (.ref CB)) (ha : DE X W e te) (hdb : (x == ("__debug__" : Str)) = false := by decide)
    (hs : starEach [e] X.env = (false, eval e X.env) :: starEach [] X.env := by rfl) (hpl : (backTo pos (starEach [] X.env)).any (·.1) = false := by rfl) :
    DS X W (.Raise (some (.Call (.Name x p) [e] [] pos)) none p3) (fun _ S => te S fun d S1 => S1.ρ.length = X.N.length ∧ ex CB [nm] [d] S1.dr) := by
  refine ps_imp (L2N.ps_raise hc tk (pmk_val (K0 := X.K) (H0 := X.H_0) hx rfl rfl (pe_xmk T hi hf F1 hr hb hg hm (pa_cons ha pa_nil hs) hdb hs hpl))) fun N σ H ⟨G, S, E, R, h, ok⟩ => ?_
  refine ⟨G, S, _, R, h, fun d S1 ⟨hl, p1⟩ v H1 G1 s1 R1 d1 => ⟨by show 1 ≤ 1000; decide, fun a ha => ⟨a, CB, v, rfl, T, upd_same, fun dx hdx hne => ⟨rfl, a, CB, rfl, T, fr0_none (hF a (R1.fr.free ha) fun m => W.tr H1 S1.dr R1.dk a m ha), .inl ⟨dx, [(nm, v)], upd_same, by rw [upd_ne hne]; exact upd_same, ?_⟩⟩⟩⟩⟩
  rw [upd_ne hne] at hdx
  have eH : delH (upd (upd (upd H1 a (exo a CB none)) dx (exd dx [(nm, v)])) a (exo a CB (some dx))) a = upd H1 dx (exd dx [(nm, v)]) := by
    funext b
    by_cases hb : b = a
    · subst hb; rw [delH_same, upd_ne (Ne.symm hne), ha]
    · rw [delH_ne hb, upd_ne hb]
      by_cases hd : b = dx
      · subst hd; rw [upd_same, upd_same]
      · rw [upd_ne hd, upd_ne hd, upd_ne hb]
  rw [eH]
  obtain ⟨R2, fr, _⟩ := R1.fresh (u := exd dx [(nm, v)]) hdx
  exact ⟨R1.len.trans hl, CB, dx, G1, S1.dr, [(nm, v)], [d], rfl, rfl, R2.bare (R1.len.trans hl), upd_same, .cons d1 .nil, fr, p1⟩
end
/-! ### own classes whose __init__ may raise -/
abbrev DSpI := List D → (List D → Prop) → (Addr → List Str → List D → Prop) → Prop
def spIniX (K : PySem.W.Frag) (C : Addr) (ns : List Str) (sp : DSpI) : Sp := fun vs H Q E => ∃ (x dx : Addr) (us : List V) (G : Hp) (ds : List D) (P : List D → Prop) (X : Addr → List Str → List D → Prop), vs = .ref x :: us ∧ H x = some (.ins C dx []) ∧ G x = none ∧ Same G H ∧ DvAll K G us ds ∧ sp ds P X ∧
  (∀ r, P r → ∀ H' G', Same G G' → Same G' H' → (∀ a o, G' a = some o → G a = some o ∨ H a = none) → (∀ a o, a ≠ x → H a = some o → H' a = some o) → G' x = none → (∃ gs, H' x = some (.ins C dx gs) ∧ gs.map (·.1) = ns ∧ DvAll K G' (gs.map (·.2)) r) → Q .non H') ∧
  ∀ CE xs es, X CE xs es → ∀ dd fs H' G', Same G G' → Same G' H' → (∀ a o, G' a = some o → G a = some o ∨ H a = none) → (∀ a o, a ≠ x → H a = some o → H' a = some o) →
    H' dd = some (exd dd fs) → fs.map (·.1) = xs → DvAll K G' (fs.map (·.2)) es → G' dd = none → H dd = none → E (.ref CE) (some dd) H'
section
variable {X : Cx} {kk : Dek} {W : Wd kk} {l : Nat} {f C : Addr} {fd : FuncData} {ps ks : List Str} {x : Str} {p pos : Pos} {e : Expr} {es : List Expr} {kws : List Keyword} {t : DTA} {ns : List Str} {sp : DSpI} {ex : XP}
def dMakeX (C : Addr) (ns : List Str) (sp : DSpI) (ex : XP) (t : DTA) : DT := fun S P => t S fun ds S1 => sp ds (fun r => P (.ins C ns r) S1) fun CE xs es => ex CE xs es S1.dr
/-- what stands behind a made object -/
theorem after_make {K : PySem.W.Frag} {G1 H1 : Hp} {σ : L2.St} {S1 : Ds} {m : Nat} {ds : List D} {vs : List V} {P : D → Ds → Prop} {Q : VK} (R1 : Rep W K G1 H1 σ S1) (dv : DvAll K G1 vs ds) (h : sp ds (fun r => P (.ins C ns r) S1) fun CE xs es => ex CE xs es S1.dr)
    (q : ∀ d S', P d S' → ∀ v H' G', Same G1 G' → Rep W K G' H' σ S' → Dv K G' v d → Q v H') {xa dx : Addr} (hxa : H1 xa = none) (hdx : H1 dx = none) (hne : dx ≠ xa) :
    spIniX K C ns sp (.ref xa :: vs) (upd (upd H1 dx (.own xa)) xa (.ins C dx [])) (fun v H3 => v = .non ∧ Q (.ref xa) H3) (exD W K m ex) := by
  have old : ∀ a o, H1 a = some o → a ≠ xa ∧ a ≠ dx := fun a o e => ⟨ne_of_none e hxa, ne_of_none e hdx⟩
  have s2 : Same H1 (upd (upd H1 dx (.own xa)) xa (.ins C dx [])) := fun a o e => by
    obtain ⟨a1, a2⟩ := old a o e
    rw [upd_ne a1, upd_ne a2]; exact e
  have dkx : ∀ a, H1 a = none → a ∉ kk.dk := fun a e m => W.tr H1 S1.dr R1.dk a m e
  have back : ∀ a, upd (upd H1 dx (.own xa)) xa (.ins C dx []) a = none → H1 a = none := fun a e => by
    cases q : H1 a with
    | none => rfl
    | some u => rw [s2 a u q] at e; cases e
  refine ⟨xa, dx, vs, G1, ds, _, _, rfl, upd_same, R1.gh.free hxa, R1.gh.trans s2, dv, h, fun r hr H' G' z1 z2 z3 z4 z5 z6 => ⟨rfl, ?_⟩, fun CE xs es hx dd fs H' G' z1 z2 z3 z4 hdd hns dv' gdd hdn σ' hl => ?_⟩
  · obtain ⟨gs, f1, f2, f3⟩ := z6
    have hH : ∀ a o, H1 a = some o → H' a = some o := fun a o e => z4 a o (old a o e).1 (s2 a o e)
    have g := same_upd (o := .ins C dx gs) z5
    have R2 := R1.grow (n := S1.dr) (G' := upd G' xa (.ins C dx gs)) (H' := H') (z1.trans g) (fun a o e => by
      by_cases h : a = xa
      · subst h; rw [upd_same] at e; cases e; exact f1
      · rw [upd_ne h] at e; exact z2 a o e) (fun a o e => by
      by_cases h : a = xa
      · subst h; exact .inr ⟨hxa, dkx _ hxa⟩
      · rw [upd_ne h] at e
        rcases z3 a o e with e | e
        · exact .inl e
        · exact .inr ⟨back a e, dkx _ (back a e)⟩) (fun a o e _ => hH a o e) (W.st H1 H' S1.dr R1.dk fun a m => by
      cases q : H1 a with
      | none => exact absurd m (dkx a q)
      | some u => exact hH a u q)
    refine q _ S1 hr _ H' _ (z1.trans g) R2 ?_
    rw [← f2]
    exact .ins upd_same (DvAll.up g _ _ f3)
  · have hH : ∀ a o, H1 a = some o → H' a = some o := fun a o e => z4 a o (old a o e).1 (s2 a o e)
    have R2 := R1.grow (n := S1.dr) (G' := G') (H' := H') z1 z2 (fun a o e => by
        rcases z3 a o e with e | e
        · exact .inl e
        · exact .inr ⟨back a e, dkx _ (back a e)⟩) (fun a o e _ => hH a o e) (W.st H1 H' S1.dr R1.dk fun a m => by
      cases q : H1 a with
      | none => exact absurd m (dkx a q)
      | some u => exact hH a u q)
    exact ⟨hl, CE, dd, G', S1.dr, fs, es, rfl, rfl, R2.bare hl, hdd, dv', ⟨gdd, R1.fr.free (back dd hdn), dkx _ (back dd hdn)⟩, by rw [hns]; exact hx⟩
theorem de_makeX (tk : L2N.Takes X (wxD W X.K X.N.length ex)) (M : Mk X.K C f) (F : FnOk X.prog X.w X.K X.mg X.base (L2N.CX X.prog X.w) l f fd ps (spIniX X.K C ns sp)) (hr : Room (l + 1) X.A) (hg : Gl X x) (hm : X.mg x = some (.ref C)) (hb : Binds X.K fd ps []) (ha : DA X W (e :: es) t)
    (hdb : (x == ("__debug__" : Str)) = false := by decide) (he : starEach (e :: es) X.env = (false, eval e X.env) :: starEach es X.env := by rfl) (hpl : (backTo pos (starEach es X.env)).any (·.1) = false := by rfl) :
    DE X W (.Call (.Name x p) (e :: es) [] pos) (dMakeX C ns sp ex t) := by
  refine pe_imp (pe_make (E := exD W X.K X.N.length ex) M F hr hg hm hb .nil (passD tk) ha hdb he hpl) fun σ H Q ⟨G, S, P, R, p, q⟩ => ?_
  refine ⟨G, S, _, R, p, fun ds S1 p1 vs H1 G1 s1 R1 dv => fun xa dx hxa hdx hne => ?_⟩
  rw [List.append_nil]
  exact after_make R1 dv p1 (fun d S' p2 v H' G' s' R' dv' => q d S' p2 v H' G' (s1.trans s') R' dv') hxa hdx hne
def DKs {kk : Dek} (X : Cx) (W : Wd kk) (kws : List Keyword) (t : DTA) : Prop := PK X kws (liftA W X.K t)
theorem dks_nil : DKs X W [] dNil :=
  ⟨fun pos pins s σ H Q I ⟨G, S, P, R, p, q⟩ => pk_nil.run pos pins s σ H Q I (q _ _ p [] H G (Same.refl _) R .nil)⟩
theorem dks_cons {nm : Option Str} {kpos : Pos} {te : DT} (ha : DE X W e te) (hr : DKs X W kws t) : DKs X W (⟨nm, e, kpos⟩ :: kws) (dCons te t) :=
  ⟨fun pos pins s σ H Q I ⟨G, S, P, R, p, q⟩ => (pk_cons ha hr).run pos pins s σ H Q I
    ⟨G, S, _, R, p, fun x S1 p1 v H1 G1 s1 R1 d1 => ⟨G1, S1, _, R1, p1, fun xs S2 p2 vs H2 G2 s2 R2 d2 => q _ S2 p2 (v :: vs) H2 G2 (s1.trans s2) R2 (.cons (Dv.up s2 _ _ d1) d2)⟩⟩⟩
def dMakeXK (C : Addr) (ns : List Str) (sp : DSpI) (ex : XP) (m : Nat) (pD : List D → List D) (t : DTA) : DT := fun S P => t S fun ds S1 => ds.length = m ∧ sp (pD ds) (fun r => P (.ins C ns r) S1) fun CE xs es => ex CE xs es S1.dr
theorem de_makeXK {pU : List Value → List Value} {pV : List V → List V} {pD : List D → List D} (tk : L2N.Takes X (wxD W X.K X.N.length ex)) (M : Mk X.K C f) (F : FnOk X.prog X.w X.K X.mg X.base (L2N.CX X.prog X.w) l f fd ps (spIniX X.K C ns sp)) (hr : Room (l + 1) X.A) (hg : Gl X x) (hm : X.mg x = some (.ref C))
    (hb : KBn X.K fd ps 1 ks (fun us ws => us ++ pU ws) (fun vs zs => vs ++ pV zs)) (hpv : ∀ {G : Hp} {zs : List V} {ds : List D}, DvAll X.K G zs ds → DvAll X.K G (pV zs) (pD ds)) (ha : DKs X W kws t)
    (hdb : (x == ("__debug__" : Str)) = false := by decide) (hall : (backToKw pos (keywordEach kws X.env)).all (·.1.isSome) = true := by rfl) (hks : (backToKw pos (keywordEach kws X.env)).filterMap (·.1) = ks := by rfl)
    (hp : ((backTo pos (starEach [] X.env)).any (·.1) || (backToKw pos (keywordEach kws X.env)).any (·.1.isNone)) = false := by rfl) :
    DE X W (.Call (.Name x p) [] kws pos) (dMakeXK C ns sp ex ks.length pD t) := by
  refine pe_imp (pe_makeKw (E := exD W X.K X.N.length ex) M F hr hg hm hb (passD tk) ha hdb hall hks hp) fun σ H Q ⟨G, S, P, R, p, q⟩ => ?_
  refine ⟨G, S, _, R, p, fun ds S1 ⟨hl, p1⟩ vs H1 G1 s1 R1 dv => ⟨(dva_len dv).trans hl, fun xa dx hxa hdx hne => ?_⟩⟩
  exact after_make R1 (hpv dv) p1 (fun d S' p2 v H' G' s' R' dv' => q d S' p2 v H' G' (s1.trans s') R' dv') hxa hdx hne
end
/-! ### try: .. except B as e: .. -/
def Wd.on {kk : Dek} (W : Wd kk) (G : Hp) (g : ∀ a ∈ kk.dk, G a = none) : Wd kk := ⟨G, W.F, g, W.fd⟩
section
variable {kk : Dek} {W : Wd kk} {K : PySem.W.Frag} {G G0 H : Hp} {σ : L2.St} {S : Ds}
theorem Rep.on (R : Rep W K G H σ S) : Rep (W.on G R.gdk) K G H σ S :=
  ⟨R.gh, Same.refl _, R.fr, fun a o e => .inl e, R.len, fun i s e => by
    obtain ⟨v, ev, ok⟩ := R.sl i s e
    refine ⟨v, ev, ?_⟩
    cases s with
    | v d => exact ok
    | o d => obtain ⟨a, rfl, f, o⟩ := ok; exact ⟨a, rfl, ⟨f.g, f.f, f.d⟩, o⟩, R.ap, R.dk⟩
theorem Rep.ofOn {g : ∀ a ∈ kk.dk, G0 a = none} (R : Rep (W.on G0 g) K G H σ S) (b : Same W.B G0) (nw : ∀ a o, G0 a = some o → W.B a = some o ∨ (W.F a = none ∧ a ∉ kk.dk)) : Rep W K G H σ S :=
  ⟨R.gh, b.trans R.bg, R.fr, fun a o e => (R.nw a o e).elim (nw a o) .inr, R.len, fun i s e => by
    obtain ⟨v, ev, ok⟩ := R.sl i s e
    refine ⟨v, ev, ?_⟩
    cases s with
    | v d => exact ok
    | o d => obtain ⟨a, rfl, f, o⟩ := ok; exact ⟨a, rfl, ⟨f.g, f.f, f.d⟩, o⟩, R.ap, R.dk⟩
theorem Rep.setN (R : Rep W K G H σ S) {i : Nat} : Rep W K G H (σ.set i none) ⟨setS S.ρ i none, S.dr⟩ := by
  refine ⟨R.gh, R.bg, R.fr, R.nw, by rw [List.length_set, setS_len]; exact R.len, fun j s e => ?_, fun j k d e a hjk q1 q2 q3 q4 => ?_, R.dk⟩
  · rcases getS_setS e with ⟨_, h, _⟩ | ⟨hj, h⟩
    · cases h
    · rw [List.getElem?_set_ne (Ne.symm hj)]; exact R.sl j s h
  · rcases getS_setS q1 with ⟨_, h, _⟩ | ⟨hj, h1⟩
    · cases h
    · rcases getS_setS q2 with ⟨_, h, _⟩ | ⟨hk, h2⟩
      · cases h
      · rw [List.getElem?_set_ne (Ne.symm hj)] at q3
        rw [List.getElem?_set_ne (Ne.symm hk)] at q4
        exact R.ap j k d e a hjk h1 h2 q3 q4
end
/-- the held error's dict, in the suite's world -/
def XObj {kk : Dek} (W : Wd kk) (K : PySem.W.Frag) (dd : Addr) (ns : List Str) (es : List D) : Prop := ∃ fs, W.F dd = some (exd dd fs) ∧ fs.map (·.1) = ns ∧ DvAll K W.B (fs.map (·.2)) es
def exTry (CB : Addr) (i m : Nat) (ts : Addr → List Str → List D → DST) (E : DEnds) : XP := fun C ns es n => C = CB ∧ ∀ a, ts a ns es { nx := fun S' => E.nx ⟨setS S'.ρ i none, S'.dr⟩, rt := E.rt, bk := fun S' => E.bk ⟨setS S'.ρ i none, S'.dr⟩, ct := fun S' => E.ct ⟨setS S'.ρ i none, S'.dr⟩ } ⟨setS (List.replicate m none) i (some (.v (.at (.ref a)))), n⟩
def dTry1 (CB : Addr) (i m : Nat) (ts : Addr → List Str → List D → DST) (tb : XP → DST) : DST := fun E S => tb (exTry CB i m ts E) E S
section
variable {X : Cx} {kk : Dek} {W : Wd kk} {x n : Str} {CB : Addr} {i : Nat} {body suite : List Stmt} {b₀ : Stmt} {np pos pos' : Pos} {ts : Addr → List Str → List D → DST} {tb : XP → DST}
theorem noOwn_bare {m : Nat} {k : Int} {σ : L2.St} {r : Addr} : NoOwn σ (bareS m k) r := fun i d e _ => (getS_none e).elim
theorem ds_try1 (hs : X.stack = X.env :: X.outer) (hf : X.env.frame = some X.env.locals) (hN : X.N.Nodup) (hi : X.N[i]? = some n) (hln : X.env.kindOf n = some .local) (hc : Names X x (.ref CB)) (hx : PySem.W.exmOne X.K (.ref CB) (.ref CB) = some true)
    (tk0 : L2N.Takes X fun _ _ _ _ => False)
    (hb : ∀ (pn : List (Addr × Obj)) (xe : Value → Shared → Prop) (W' : Wd kk) (ex : XP), L2N.Takes (X.tr pn xe) (wxD W' X.K X.N.length ex) → PassesOwn (model X.prog X.w) X.A X.env xe → DSs (X.tr pn xe) W' body (tb ex))
    (hsu : ∀ (a : Addr) (oe : Obj) (dd : Addr) (ns : List Str) (es : List D) (pn : List (Addr × Obj)) (W' : Wd kk), L2N.Zn (.ref CB) (some dd) oe → (∃ vs, oe.data = .fields vs) → XObj W' X.K dd ns es → DSs (X.suite a ((a, oe) :: pn)) W' (b₀ :: suite) (ts a ns es)) :
    DS X W (.Try body [.ExceptHandler (some (.Name x np)) (some n) (b₀ :: suite) pos'] [] [] pos) (dTry1 CB i X.N.length ts tb) := by
  refine ps_imp (L2N.ps_try_as (i := i) (Wout := fun _ _ _ _ => False) (c := .ref CB)
    (tb := fun Wx N σ H => ∃ (W' : Wd kk) (ex : XP), (∀ cls d σ' H', wxD W' X.K X.N.length ex cls d σ' H' → Wx cls d σ' H') ∧ liftS W' X.K (tb ex) N σ H)
    (ts := fun a cls d N σ H => ∀ oe : Obj, L2N.Zn cls d oe → (∃ vs, oe.data = .fields vs) → ∃ (dd : Addr) (ns : List Str) (es : List D) (W' : Wd kk), cls = .ref CB ∧ d = some dd ∧ XObj W' X.K dd ns es ∧ liftS W' X.K (ts a ns es) N σ H)
    hs hf hN hi hln hc tk0 (fun Wx pn xe tk po => ⟨fun pins s σ H N I ⟨W', ex, imp, q⟩ => (hb pn xe W' ex (tk.imp imp) po).run pins s σ H N I q⟩)
    (fun a oe cls d pn hz hf' => ⟨fun pins s σ H N I h => by
      obtain ⟨dd, ns, es, W', rfl, rfl, xo, q⟩ := h oe hz hf'
      exact (hsu a oe dd ns es pn W' hz hf' xo).run pins s σ H N I q⟩)) fun N σ H ⟨G, S, E, R, h, ok⟩ => ?_
  refine ⟨W.on G R.gdk, exTry CB i X.N.length ts E, fun cls d σ' H' hw => ?_, G, S, E, R.on, h, ?_⟩
  · obtain ⟨hl, C, dd, G1, n1, fs, es, rfl, rfl, R1, hdd, dv, fr, rfl, hex⟩ := hw
    refine ⟨true, hx, fun _ a ha oe hz hf' => ?_, fun z => by cases z⟩
    have sG : Same G G1 := R1.bg
    have b1 : Same W.B G1 := R.bg.trans sG
    have nw1 : ∀ b o, G1 b = some o → W.B b = some o ∨ (W.F b = none ∧ b ∉ kk.dk) := fun b o e => (R1.nw b o e).elim (R.nw b o) .inr
    have R2 : Rep W X.K G1 H' σ' (bareS X.N.length n1) := R1.ofOn R.bg R.nw
    have fr2 : Frsh W G1 dd := ⟨fr.g, fr.f, fr.d⟩
    have frO : Frsh (W.on G1 R2.gdk) G1 dd := ⟨fr.g, fr.f, fr.d⟩
    have R3 := (R2.on.plus frO noOwn_bare hdd).setV (i := i) (d := .at (.ref a)) (.at _)
    refine ⟨dd, _, es, _, rfl, rfl, ⟨fs, upd_same, rfl, dv⟩, G1, _, _, R3, hex a, ?_⟩
    have fin : ∀ {G2 H2 : Hp} {σ2 : L2.St} {S2 : Ds}, Rep ((W.on G1 R2.gdk).plus dd (exd dd fs) frO.d) X.K G2 H2 σ2 S2 → Rep W X.K G2 H2 σ2 S2 := fun R4 => ((Rep.less (W := W.on G1 R2.gdk) fr.f fr.g R4).1).ofOn b1 nw1
    exact ⟨fun S2 σ2 H2 G2 s2 hn R4 => ok.nx _ _ _ G2 (sG.trans s2) hn (fin R4).setN, fun d S2 σ2 H2 G2 v s2 hn R4 dv4 => ok.rt d S2 σ2 H2 G2 v (sG.trans s2) hn (fin R4) dv4,
      fun S2 σ2 H2 G2 s2 hn R4 => ok.bk _ _ _ G2 (sG.trans s2) hn (fin R4).setN, fun S2 σ2 H2 G2 s2 hn R4 => ok.ct _ _ _ G2 (sG.trans s2) hn (fin R4).setN⟩
  · exact ⟨fun S2 σ2 H2 G2 s2 hn R4 => ok.nx _ _ _ G2 s2 hn (R4.ofOn R.bg R.nw), fun d S2 σ2 H2 G2 v s2 hn R4 dv4 => ok.rt d S2 σ2 H2 G2 v s2 hn (R4.ofOn R.bg R.nw) dv4,
      fun S2 σ2 H2 G2 s2 hn R4 => ok.bk _ _ _ G2 s2 hn (R4.ofOn R.bg R.nw), fun S2 σ2 H2 G2 s2 hn R4 => ok.ct _ _ _ G2 s2 hn (R4.ofOn R.bg R.nw)⟩
/-! ### in the suite: e.part, isinstance(e, B) -/
variable {a : Addr} {oe : Obj} {dd : Addr} {ns : List Str} {es : List D} {pn : List (Addr × Obj)} {e : Expr} {te : DT} {m : Str} {CS : Addr} {c : Expr} {tc : DT} {p : Pos}
def dXe (a : Addr) (ns : List Str) (es : List D) (m : Str) (te : DT) : DT := fun S P => te S fun x S1 => x = .at (.ref a) ∧ ∃ d, lookD ns es m = some d ∧ P d S1
theorem de_xe (T : XcC X.K CB) (hno : m ∈ fldN) (hz : L2N.Zn (.ref CB) (some dd) oe) (hf : ∃ vs, oe.data = .fields vs) (xo : XObj W X.K dd ns es) (he : DE (X.suite a ((a, oe) :: pn)) W e te) (hb : attributeBase e m X.env (eval e X.env) = eval e X.env := by rfl) :
    DE (X.suite a ((a, oe) :: pn)) W (.Attribute e m pos) (dXe a ns es m te) := by
  refine pe_imp (pe_xe T hno hz.zc hf he hb) fun σ H Q ⟨G, S, P, R, p, q⟩ => ?_
  refine ⟨G, S, _, R, p, fun x S1 ⟨ex, d, el, p1⟩ v H1 G1 s1 R1 d1 => ?_⟩
  subst ex
  cases d1
  obtain ⟨fs, f1, f2, f3⟩ := xo
  subst f2
  obtain ⟨v, ev, dv⟩ := look_dv (DvAll.up R1.bg _ _ f3) el
  exact ⟨rfl, rfl, dd, fs, v, rfl, R1.fr dd _ f1, ev, q _ S1 p1 _ H1 G1 s1 R1 dv⟩
def dXis (a CS : Addr) (te tc : DT) : DT := fun S P => te S fun x S1 => tc S1 fun y S2 => x = .at (.ref a) ∧ y = .at (.ref CS) ∧ P (.bl true) S2
theorem de_xis (T : XcC X.K CB) (xG : XcG X.K) (kit : PySem.W.kitOne X.K (.ref CB) (.ref CS) = some true) (hz : L2N.Zn (.ref CB) (some dd) oe) (hf : ∃ vs, oe.data = .fields vs) (xo : XObj W X.K dd ns es) (hg : Gl X "isinstance") (hm : X.mg "isinstance" = none) (he : DE (X.suite a ((a, oe) :: pn)) W e te) (hc : DE (X.suite a ((a, oe) :: pn)) W c tc)
    (h1 : starEach [e, c] X.env = (false, eval e X.env) :: starEach [c] X.env := by rfl) (h2 : starEach [c] X.env = (false, eval c X.env) :: starEach [] X.env := by rfl) (hpl : (backTo pos (starEach [c] X.env)).any (·.1) = false := by rfl) :
    DE (X.suite a ((a, oe) :: pn)) W (.Call (.Name "isinstance" p) [e, c] [] pos) (dXis a CS te tc) := by
  refine pe_imp (pe_callB (call_xisH (q := (a, oe)) xG (List.mem_cons_self ..)) hg hm boot_isinstance (pa_cons he (pa_cons hc pa_nil h2) h1) (by decide) (by decide) h1 hpl) fun σ H Q ⟨G, S, P, R, p, q⟩ => ?_
  refine ⟨G, S, _, R, p, fun x S1 p1 v H1 G1 s1 R1 d1 => ⟨G1, S1, _, R1, p1, fun y S2 ⟨ex, ey, p2⟩ w H2 G2 s2 R2 d2 => ?_⟩⟩
  subst ex ey
  cases d1
  cases d2
  obtain ⟨fs, f1, f2, f3⟩ := xo
  exact ⟨CB, .ref CS, .ref CS, true, rfl, ⟨hz.1, hf, .inr ⟨dd, fs, hz.2.1, R2.fr dd _ f1⟩⟩, T, .own _, kit, q _ S2 p2 _ H2 G2 (s1.trans s2) R2 (.bl _)⟩
end
end Dl
namespace Dl
open PySem PySem.Spec PyProof.Rows L2 L2H Sw Ss
/-! ### f'..' -/
section
variable {X : Cx} {kk : Dek} {W : Wd kk} {e v1 v2 : Expr} {es : List Expr} {te : DT} {pos p : Pos} {t : DTA}
def fmtD (x : D) (P : Str → Prop) : Prop := match x with
  | .str y => y.length ≤ sizeLine ∧ P y
  | .int i => i.natAbs.log2 < 1920 ∧ P (Str.ofString (toString i))
  | _ => False
def dFmt (te : DT) : DT := fun S P => te S fun x S1 => fmtD x fun y => P (.str y) S1
theorem de_fmt (he : DE X W e te) : DE X W (.FormattedValue e (-1) none pos) (dFmt te) := by
  refine pe_imp (pe_fmt he) fun σ H Q ⟨G, S, P, R, p, q⟩ => ⟨G, S, _, R, p, fun x S1 p1 v H1 G1 s1 R1 d1 => ?_⟩
  cases x with
  | str y => cases d1; exact .inl ⟨y, rfl, p1.1, q _ S1 p1.2 _ H1 G1 s1 R1 (.str _)⟩
  | int i => cases d1; exact .inr ⟨i, rfl, p1.1, q _ S1 p1.2 _ H1 G1 s1 R1 (.str _)⟩
  | _ => exact False.elim p1
inductive DJ (X : Cx) (kk : Dek) : List Expr → List DT → Prop where
  | nil : DJ X kk [] []
  | cons {e : Expr} {t : DT} {es : List Expr} {ts : List DT} (h : ∀ W : Wd kk, DE X W e t) (r : DJ X kk es ts) : DJ X kk (e :: es) (t :: ts)
def dJs : List DT → Str → Ds → (Str → Ds → Prop) → Prop
  | [], acc, S, P => P acc S
  | t :: ts, acc, S, P => t S fun x S1 => ∃ y : Str, x = .str y ∧ (acc ++ y).length ≤ sizeLine ∧ dJs ts (acc ++ y) S1 P
theorem dj_pj {es : List Expr} {ts : List DT} (h : DJ X kk es ts) : PJ X es (ts.map (anyE kk X.K)) := by
  induction h with
  | nil => exact .nil
  | cons h _ ih => exact .cons (pe_anyE h) ih
theorem lift_js {σ : L2.St} {W : Wd kk} : ∀ (ts : List DT) (acc : Str) {G H : Hp} {S : Ds} {P : Str → Ds → Prop} {Q : Str → Hp → Prop}, Rep W X.K G H σ S → dJs ts acc S P → (∀ z S', P z S' → ∀ H' G', Same G G' → Rep W X.K G' H' σ S' → Q z H') → tJs (ts.map (anyE kk X.K)) acc σ H Q
  | [], acc, G, H, S, P, Q, R, h, q => q acc S h H G (Same.refl _) R
  | t :: ts, acc, G, H, S, P, Q, R, h, q => ⟨W, G, S, _, R, h, fun x S1 ⟨y, ex, hz, h1⟩ v H1 G1 s1 R1 d1 => by
      subst ex
      cases d1
      exact ⟨y, rfl, hz, lift_js ts (acc ++ y) R1 h1 fun z S' p' H' G' s' R' => q z S' p' H' G' (s1.trans s') R'⟩⟩
def dJoined (ts : List DT) : DT := fun S P => dJs ts Str.empty S fun z S1 => P (.str z) S1
theorem de_joined {ts : List DT} (h : DJ X kk (v1 :: v2 :: es) ts) : DE X W (.JoinedStr (v1 :: v2 :: es) pos) (dJoined ts) := by
  have hp := dj_pj h
  refine pe_imp (pe_joined hp) fun σ H Q ⟨G, S, P, R, p, q⟩ => ?_
  exact lift_js ts Str.empty R p fun z S' p' H' G' s' R' => q _ S' p' _ H' G' s' R' (.str _)
/-! ### [.., *x, ..] -/
def dStar (te : DT) (t : DTA) : DTA := fun S P => te S fun x S1 => ∃ ds, (x = .lst ds ∨ x = .tup ds) ∧ t S1 fun es S2 => P (ds ++ es) S2
theorem da_star {p' : Pos} (he : DE X W e te) (hr : DA X W es t) (hs : starEach (.Starred e p' :: es) X.env = (true, eval e X.env) :: starEach es X.env := by rfl) : DA X W (.Starred e p' :: es) (dStar te t) := by
  refine pa_imp (StX.pa_star he hr hs) fun σ H Q ⟨G, S, P, R, p, q⟩ => ⟨G, S, _, R, p, fun x S1 ⟨ds, ex, p1⟩ v H1 G1 s1 R1 d1 => ?_⟩
  rcases ex with rfl | rfl
  · cases d1 with
    | @lst a xs _ h1 h2 => exact ⟨a, xs, rfl, .inr (SqL.of (R1.gh _ _ h1)), G1, S1, _, R1, p1, fun es S2 p2 vs H2 G2 s2 R2 d2 => q _ S2 p2 _ H2 G2 (s1.trans s2) R2 (dva_app (DvAll.up s2 _ _ h2) d2)⟩
  · cases d1 with
    | @tup a xs _ h1 h2 => exact ⟨a, xs, rfl, .inl (SqT.of (R1.gh _ _ h1)), G1, S1, _, R1, p1, fun es S2 p2 vs H2 G2 s2 R2 d2 => q _ S2 p2 _ H2 G2 (s1.trans s2) R2 (dva_app (DvAll.up s2 _ _ h2) d2)⟩
/-! ### a text times a number -/
def dMulS (x y : D) (P : D → Prop) : Prop := match x, y with
  | .str z, .int k => (2 ≤ k ∧ k ≤ 1000 ∧ 1 ≤ z.length ∧ z.length ≤ 1000) ∧ ∀ u : Str, u.length = k.toNat * z.length → (∀ c ∈ u.cps.toList, c ∈ z.cps.toList) → P (.str u)
  | _, _ => False
theorem do_op_mulS : DOp X W (binaryOp .Mult) dMulS := by
  refine ⟨_, op_mulT (X := X), fun G H σ S v w x y P Q R hv hw h q => ?_⟩
  cases x with
  | str z =>
    cases y with
    | int k =>
      cases hv; cases hw
      obtain ⟨⟨b1, b2, b3, b4⟩, p⟩ := h
      exact ⟨z, k, rfl, rfl, b1, b2, b3, b4, fun u h1 h2 => q _ (p u h1 h2) _ H G (Same.refl _) R (.str _)⟩
    | _ => exact h.elim
  | _ => exact h.elim
/-! ### sorted(set(x)), of texts, of whole numbers -/
theorem strs_dv {K : PySem.W.Frag} {G : Hp} : ∀ {zs : List Str} {vs : List V}, DvAll K G vs (zs.map D.str) → vs = (zs.map (Sum.inr : Str → Key)).map kV
  | [], _, h => by cases h; rfl
  | z :: zs, _, h => by cases h with | cons h1 h2 => cases h1; rw [strs_dv h2]; rfl
theorem intsK_dv {K : PySem.W.Frag} {G : Hp} : ∀ {zs : List Int} {vs : List V}, DvAll K G vs (zs.map D.int) → vs = (zs.map (Sum.inl : Int → Key)).map kV
  | [], _, h => by cases h; rfl
  | z :: zs, _, h => by cases h with | cons h1 h2 => cases h1; rw [intsK_dv h2]; rfl
def dSortK (te : DT) : DT := fun S P => te S fun x S1 => (∃ zs : List Str, (x = .lst (zs.map D.str) ∨ x = .tup (zs.map D.str)) ∧ zs.length + 1 < scanBound ∧ ∀ ys : List Str, sortedS ys = true → ys.Nodup → (∀ z, z ∈ ys ↔ z ∈ zs) → P (.lst (ys.map D.str)) S1) ∨
  ∃ zs : List Int, (x = .lst (zs.map D.int) ∨ x = .tup (zs.map D.int)) ∧ zs.length + 1 < scanBound ∧ ∀ ys : List Int, ys.Pairwise (· ≤ ·) → ys.Nodup → (∀ z, z ∈ ys ↔ z ∈ zs) → P (.lst (ys.map D.int)) S1
theorem do_sortK {p p2 q : Pos} (hc : X.calm = true) (hg : Gl X "sorted") (hm : X.mg "sorted" = none) (hg2 : Gl X "set") (hm2 : X.mg "set" = none) (ha : DE X W e te)
    (na : starEach [e] X.env = (false, eval e X.env) :: starEach [] X.env := by rfl) (na2 : starEach [.Call (.Name "set" p2) [e] [] q] X.env = (false, eval (.Call (.Name "set" p2) [e] [] q) X.env) :: starEach [] X.env := by rfl) :
    DO X W (.Call (.Name "sorted" p) [.Call (.Name "set" p2) [e] [] q] [] pos) (dSortK te) := by
  refine pe_imp (pe_callB (cr_sortM hc) hg hm (by decide +kernel) (pa_cons (pe_callTy (cr_setM hc) hg2 hm2 (by decide +kernel) (pa_cons ha pa_nil na) (by decide) (by decide) na) pa_nil na2) (by decide) (by decide) na2) fun σ H Q ⟨G, S, P, R, p, qq⟩ => ?_
  refine ⟨G, S, _, R, p, fun x S1 p1 v H1 G1 s1 R1 d1 => ?_⟩
  have seq : ∀ {ds : List D}, (x = .lst ds ∨ x = .tup ds) → ∃ l xs, v = .ref l ∧ (SqL X.K H1 l xs ∨ SqT X.K H1 l xs) ∧ DvAll X.K G1 xs ds := fun {ds} ex => by
    rcases ex with rfl | rfl
    · cases d1 with | @lst l xs _ h1 h2 => exact ⟨l, xs, rfl, .inl (SqL.of (R1.gh _ _ h1)), h2⟩
    · cases d1 with | @tup l xs _ h1 h2 => exact ⟨l, xs, rfl, .inr (SqT.of (R1.gh _ _ h1)), h2⟩
  rcases p1 with ⟨zs, ex, few, p1⟩ | ⟨zs, ex, few, p1⟩
  · obtain ⟨l, xs, rfl, hq, dv⟩ := seq ex
    have exs := strs_dv dv
    subst exs
    refine ⟨l, zs.map Sum.inr, rfl, hq, by rw [List.length_map]; exact few, fun pp L hp mem _ => ?_⟩
    have R2 := (R1.newO (o := SetMO X.w pp L) hp).1
    refine ⟨pp, L, rfl, upd_same, .inl ⟨zs, mem, fun ys p3 so nd my hp3 => ?_⟩⟩
    obtain ⟨R3, f, no⟩ := R2.fresh (u := .lst (ys.map V.str)) hp3
    exact qq _ S1 (p1 ys so nd my) p3 _ G1 s1 R3 f ⟨_, upd_same, dv_strs ys⟩ no
  · obtain ⟨l, xs, rfl, hq, dv⟩ := seq ex
    have exs := intsK_dv dv
    subst exs
    refine ⟨l, zs.map Sum.inl, rfl, hq, by rw [List.length_map]; exact few, fun pp L hp mem _ => ?_⟩
    have R2 := (R1.newO (o := SetMO X.w pp L) hp).1
    refine ⟨pp, L, rfl, upd_same, .inr ⟨zs, mem, fun ys p3 so nd my hp3 => ?_⟩⟩
    obtain ⟨R3, f, no⟩ := R2.fresh (u := .lst (ys.map V.int)) hp3
    exact qq _ S1 (p1 ys so nd my) p3 _ G1 s1 R3 f ⟨_, upd_same, dv_ints ys⟩ no
/-! ### len(range(n)) -/
theorem pe_lenRg1 {a : Expr} {ta : TE} {p p2 q : Pos} (hg : Gl X "len") (hm : X.mg "len" = none) (hg2 : Gl X "range") (hm2 : X.mg "range" = none) (ha : PE X a ta) (na : starEach [a] X.env = (false, eval a X.env) :: starEach [] X.env := by rfl)
    (na2 : starEach [.Call (.Name "range" p2) [a] [] q] X.env = (false, eval (.Call (.Name "range" p2) [a] [] q) X.env) :: starEach [] X.env := by rfl) :
    PE X (.Call (.Name "len" p) [.Call (.Name "range" p2) [a] [] q] [] pos) (fun σ H Q => tRg1 ta σ H fun a b H1 => ∃ n : Nat, a = 0 ∧ b = (n : Int) ∧ n < 2 ^ 62 ∧ Q (.int n) H1) := by
  refine ⟨fun pins s σ H Q I h => ?_⟩
  refine wpAny_Call_Name_kw (ld_blt I hg hm boot_len ?_ (by decide) (by decide))
  refine PyProof.Rows.callWith_builtin1 (args_cons (wpAny_mono (prg_1 hg2 hm2 ha na pins s σ H _ I h) (fun x s' hx => ?_) fun _ _ e => e) na2) na2 (by rfl)
  obtain ⟨r, a, b, t, u, v, H', rfl, hr, I', n, rfl, rfl, hn, q⟩ := hx
  refine args_nil ?_
  refine call_len_range (n := n) hr ?_ (by omega) ⟨.int n, H', I'.tok _, ⟨_, rfl⟩, q⟩
  rw [rangeSize_one]
  split <;> omega
def dLenRg (te : DT) : DT := fun S P => te S fun x S1 => ∃ n : Nat, x = .int n ∧ n < 2 ^ 62 ∧ P (.int n) S1
theorem de_lenRg {p p2 q : Pos} (hg : Gl X "len") (hm : X.mg "len" = none) (hg2 : Gl X "range") (hm2 : X.mg "range" = none) (ha : DE X W e te) (na : starEach [e] X.env = (false, eval e X.env) :: starEach [] X.env := by rfl)
    (na2 : starEach [.Call (.Name "range" p2) [e] [] q] X.env = (false, eval (.Call (.Name "range" p2) [e] [] q) X.env) :: starEach [] X.env := by rfl) : DE X W (.Call (.Name "len" p) [.Call (.Name "range" p2) [e] [] q] [] pos) (dLenRg te) := by
  refine pe_imp (pe_lenRg1 hg hm hg2 hm2 ha na na2) fun σ H Q ⟨G, S, P, R, p, q⟩ => ?_
  refine ⟨G, S, _, R, p, fun x S1 ⟨n, ex, hn, p1⟩ v H1 G1 s1 R1 d1 => ?_⟩
  subst ex
  cases d1
  exact ⟨_, rfl, n, rfl, rfl, hn, q _ S1 p1 _ H1 G1 s1 R1 (.int _)⟩
/-! ### a + b, lists, owned by what they are put in -/
def dCatO (ta tb : DT) : DT := fun S P => ta S fun x S1 => tb S1 fun y S2 => ∃ a b, x = .lst a ∧ y = .lst b ∧ a.length + b.length ≤ sizeLine ∧ P (.lst (a ++ b)) S2
theorem do_cat {a b : Expr} {ta tb : DT} (ha : DE X W a ta) (hb : DE X W b tb) : DO X W (.BinOp a .Add b pos) (dCatO ta tb) := by
  refine pe_imp (pe_op op_cat ha hb) fun σ H Q ⟨G, S, P, R, p, q⟩ => ?_
  refine ⟨G, S, _, R, p, fun x S1 p1 v H1 G1 s1 R1 d1 => ⟨G1, S1, _, R1, p1, fun y S2 ⟨xs, ys, ex, ey, hz, p2⟩ w H2 G2 s2 R2 d2 => ?_⟩⟩
  subst ex ey
  have d1' := Dv.up s2 _ _ d1
  cases d1' with
  | @lst pa us _ h1 h2 =>
    cases d2 with
    | @lst pb ws _ h3 h4 =>
      refine ⟨pa, pb, us, ws, rfl, rfl, R2.gh _ _ h1, R2.gh _ _ h3, by rw [dva_len h2, dva_len h4]; exact hz, fun p' hp => ?_⟩
      obtain ⟨R3, f, no⟩ := R2.fresh (u := .lst (us ++ ws)) hp
      exact q _ S2 p2 p' _ G2 (s1.trans s2) R3 f ⟨_, upd_same, dva_app h2 h4⟩ no
/-! ### x == [], x != [] -/
theorem op_neL0 (hu : X.A.units < cLine) : OpR X (compareOp .NotEq) (fun x y H Q => ∃ a xs b, x = .ref a ∧ SqL X.K H a xs ∧ y = .ref b ∧ SqL X.K H b [] ∧ Q (.bl (!xs.isEmpty)) H) := by
  intro pins s σ H x y v u Q I rx ry ⟨a, xs, b, ex, hx, ey, hy, q⟩
  subst ex ey
  cases rx
  cases ry
  obtain ⟨its, r, pl, _⟩ := I.list hx
  obtain ⟨its2, r2, pl2, _⟩ := I.list hy
  cases r2
  have hl := r.length
  cases xs with
  | nil =>
    cases its with
    | cons _ _ => cases hl
    | nil => exact SeqAt.RcNeAt.lists (e := fun _ => true) pl.isList pl2.isList rfl hu (fun j h1 h2 => absurd h2 (Nat.not_lt_zero _)) X.prog X.w _ _ ⟨.bl _, H, I, rfl, q⟩
  | cons _ _ =>
    cases its with
    | nil => cases hl
    | cons _ _ => exact SeqAt.RcNeAt.lists_lengths pl.isList pl2.isList (by simp) hu X.prog X.w _ _ ⟨.bl _, H, I, rfl, q⟩
theorem op_eqL0 (hu : X.A.units < cLine) : OpR X (compareOp .Eq) (fun x y H Q => ∃ a xs b, x = .ref a ∧ SqL X.K H a xs ∧ y = .ref b ∧ SqL X.K H b [] ∧ Q (.bl xs.isEmpty) H) := by
  intro pins s σ H x y v u Q I rx ry ⟨a, xs, b, ex, hx, ey, hy, q⟩
  subst ex ey
  cases rx
  cases ry
  obtain ⟨its, r, pl, _⟩ := I.list hx
  obtain ⟨its2, r2, pl2, _⟩ := I.list hy
  cases r2
  have hl := r.length
  cases xs with
  | nil =>
    cases its with
    | cons _ _ => cases hl
    | nil => exact SeqAt.RcAt.lists (e := fun _ => true) pl.isList pl2.isList rfl hu (fun j h1 h2 => absurd h2 (Nat.not_lt_zero _)) X.prog X.w _ _ ⟨.bl _, H, I, rfl, q⟩
  | cons _ _ =>
    cases its with
    | nil => cases hl
    | cons _ _ => exact SeqAt.RcAt.lists_lengths pl.isList pl2.isList (by simp) hu X.prog X.w _ _ ⟨.bl _, H, I, rfl, q⟩
def dL0 (f : Bool → Bool) (x y : D) (P : D → Prop) : Prop := match x, y with
  | .lst ds, .lst [] => P (.bl (f ds.isEmpty))
  | _, _ => False
theorem do_neL0 (hu : X.A.units + 64 < cLine) : DOpB X W (compareOp .NotEq) (dL0 (!·)) := by
  refine ⟨_, op_neL0 (by omega), fun G H σ S v w x y P Q R hv hw h q => ?_⟩
  unfold dL0 at h
  split at h
  · cases hv with
    | @lst a xs _ h1 h2 =>
      cases hw with
      | @lst b ys _ h3 h4 =>
        cases h4
        exact ⟨a, xs, b, rfl, SqL.of (R.gh _ _ h1), rfl, SqL.of (R.gh _ _ h3), q _ (by rw [dva_empty h2]; exact h)⟩
  · exact h.elim
theorem do_eqL0 (hu : X.A.units + 64 < cLine) : DOpB X W (compareOp .Eq) (dL0 id) := by
  refine ⟨_, op_eqL0 (by omega), fun G H σ S v w x y P Q R hv hw h q => ?_⟩
  unfold dL0 at h
  split at h
  · cases hv with
    | @lst a xs _ h1 h2 =>
      cases hw with
      | @lst b ys _ h3 h4 =>
        cases h4
        exact ⟨a, xs, b, rfl, SqL.of (R.gh _ _ h1), rfl, SqL.of (R.gh _ _ h3), q _ (by rw [dva_empty h2]; exact h)⟩
  · exact h.elim
end
end Dl
namespace L2
open PySem PySem.Spec PyProof.Rows
/-! ### a tuple times 1, times 0 -/
theorem tuple_mul1 (l : Addr) (items : Array Value) (n : Nat) (dd : Option Addr) (sl : Array (Option Value)) (u : Tok) :
    Meets (Builtin.«tuple.__mul__» ⟨[.ref l, .int 1 u], []⟩) (fun _ R s => s.heap.get? l = some { cls := .type "tuple", dict := dd, data := .seq items n, slots := sl } ∧ R (.ok (.ret (.ref l))) s) :=
  .of_wp fun prog w A R s h => by
    obtain ⟨hp, g, d, tk, os⟩ := s
    obtain ⟨hl, h⟩ := h
    have f1 := AutoSeq1.idx_int
    have c0 : (decide ((1 : Int) < -(2 ^ 63)) || decide ((1 : Int) ≥ 2 ^ 63)) = false := by decide
    have c1 : (items.isEmpty || (1 : Int) == 1) = true := by rw [show ((1 : Int) == 1) = true from rfl, Bool.or_true]
    wp_walk using wpAny_loadPart' hl
    repeat (first
      | (refine wpAny_ite_false (decide_eq_false (by rw [c0]; exact Bool.false_ne_true)) ?_; wp_walk using wpAny_loadPart' hl)
      | (refine wpAny_ite_true (decide_eq_true c1) ?_; wp_walk using wpAny_loadPart' hl))
    exact ⟨_, rfl, h⟩
theorem tuple_mul0 (l : Addr) (items : Array Value) (n : Nat) (dd : Option Addr) (sl : Array (Option Value)) (u : Tok) (hi : items.isEmpty = false) :
    Meets (Builtin.«tuple.__mul__» ⟨[.ref l, .int 0 u], []⟩) (fun _ R s => s.heap.get? l = some { cls := .type "tuple", dict := dd, data := .seq items n, slots := sl } ∧
      R (.ok (.ret (Value.ref s.heap.objs.size))) { s with heap := s.heap.push { cls := Value.type "tuple", data := Data.seq #[] }, toks := s.toks }) :=
  .of_wp fun prog w A R s h => by
    obtain ⟨hp, g, d, tk, os⟩ := s
    obtain ⟨hl, h⟩ := h
    have f1 := AutoSeq1.idx_int
    have c0 : (decide ((0 : Int) < -(2 ^ 63)) || decide ((0 : Int) ≥ 2 ^ 63)) = false := by decide
    have c1 : (items.isEmpty || (0 : Int) == 1) = false := by rw [hi]; rfl
    have c2 : (decide ((0 : Int) ≤ 0) || items.isEmpty) = true := by rw [hi]; rfl
    wp_walk using wpAny_loadPart' hl
    repeat (first
      | (refine wpAny_ite_false (decide_eq_false (by rw [c0]; exact Bool.false_ne_true)) ?_; wp_walk using wpAny_loadPart' hl)
      | (refine wpAny_ite_false (decide_eq_false (by rw [c1]; exact Bool.false_ne_true)) ?_; wp_walk using wpAny_loadPart' hl)
      | (refine wpAny_ite_true (decide_eq_true c2) ?_; wp_walk using wpAny_loadPart' hl))
    exact ⟨_, rfl, h⟩
def rRep01 (K : PySem.W.Frag) : R2 := fun x y H Q => ∃ l k xs, x = .ref l ∧ y = .int k ∧ SqT K H l xs ∧ xs ≠ [] ∧ ((k = 1 ∧ Q (.ref l) H) ∨ (k = 0 ∧ ∀ p, H p = none → Q (.ref p) (upd H p (.tup []))))
section
variable {X : Cx}
theorem op_rep01 : OpR X (binaryOp .Mult) (rRep01 X.K) := by
  intro pins s σ H x y v u Q I rx ry h
  obtain ⟨l, k, xs, rfl, rfl, hT, hne, q⟩ := h
  cases rx
  obtain ⟨t, rfl⟩ := ry
  obtain ⟨its, r, ⟨⟨cls, dd, data, sl⟩, ho, hc, n, hd⟩, hs⟩ := I.tuple hT
  simp only at hc hd
  subst hc hd
  have hle : its.length = xs.length := r.length.symm
  have hn : its ≠ [] := fun e => hne (by
    rw [e] at hle
    exact List.eq_nil_of_length_eq_zero hle.symm)
  have hi : its.toArray.isEmpty = false := by
    cases its with
    | nil => exact absurd rfl hn
    | cons a b => rfl
  rcases q with ⟨rfl, q⟩ | ⟨rfl, q⟩
  · refine wpAny_binaryOp_repeat_ref (T := "tuple") (U := "int") (by decide) ⟨_, ho, rfl⟩ (fun s' => typeIs_int s' 1 t) noFill_tuple_mul F.fills_int_mul F.slot_int_rmul repeat_tuple F.slot_int_index.lookup
      (call_meets F.slot_int_rmul (typeIs_int s 1 t) F.entry_int_rmul (F.args_int_rmul_2 _ _) (int_rmul_tuple 1 t l its.toArray n dd sl)
        ⟨ho, rfl, ⟨_, ho, rfl⟩, call_meets F.slot_tuple_mul ⟨_, ho, rfl⟩ F.entry_tuple_mul (F.args_tuple_mul_2 _ _) (tuple_mul1 l its.toArray n dd sl t) ⟨ho, ?_⟩⟩)
    exact ⟨.ref l, _, I, rfl, q⟩
  · refine wpAny_binaryOp_repeat_ref (T := "tuple") (U := "int") (by decide) ⟨_, ho, rfl⟩ (fun s' => typeIs_int s' 0 t) noFill_tuple_mul F.fills_int_mul F.slot_int_rmul repeat_tuple F.slot_int_index.lookup
      (call_meets F.slot_int_rmul (typeIs_int s 0 t) F.entry_int_rmul (F.args_int_rmul_2 _ _) (int_rmul_tuple 0 t l its.toArray n dd sl)
        ⟨ho, rfl, ⟨_, ho, rfl⟩, call_meets F.slot_tuple_mul ⟨_, ho, rfl⟩ F.entry_tuple_mul (F.args_tuple_mul_2 _ _) (tuple_mul0 l its.toArray n dd sl t hi) ⟨ho, ?_⟩⟩)
    refine ⟨.ref s.heap.objs.size, _, I.laid (t' := s.toks) (o := .tup []) (fun b ob q => Heap.get?_push_of_some _ q) (Nat.le_refl _) ?_, rfl, q _ (I.hok.fresh (Nat.le_refl _))⟩
    exact ⟨Nat.zero_le _, _, .nil, IsTup.new _ _⟩
end
end L2
namespace Dl
open PySem PySem.Spec PyProof.Rows L2 Sw Ss
def dMul01 (x y : D) (P : D → Prop) : Prop := match x, y with
  | .tup a, .int j => a ≠ [] ∧ ((j = 1 ∧ P (.tup a)) ∨ (j = 0 ∧ P (.tup [])))
  | _, _ => False
theorem do_op_mul01 {X : Cx} {kk : Dek} {W : Wd kk} : DOp X W (binaryOp .Mult) dMul01 := by
  refine ⟨_, op_rep01 (X := X), fun G H σ S v w x y P Q R hv hw h q => ?_⟩
  cases x with
  | tup a =>
    cases y with
    | int j =>
      cases hw
      cases hv with
      | @tup pa xs _ h1 h2 =>
        obtain ⟨b0, p⟩ := h
        have l := dva_len h2
        refine ⟨pa, j, xs, rfl, rfl, SqT.of (R.gh _ _ h1), fun e => b0 (len_nil l e), ?_⟩
        rcases p with ⟨rfl, p⟩ | ⟨rfl, p⟩
        · exact .inl ⟨rfl, q _ p _ _ _ (Same.refl _) R (.tup h1 h2)⟩
        · refine .inr ⟨rfl, fun p' hp => ?_⟩
          have g := same_upd (o := .tup []) (R.gh.free hp)
          exact q _ p _ _ _ g (R.new hp) (.tup upd_same .nil)
    | _ => exact h.elim
  | _ => exact h.elim
section
variable {P : Program} {w : World} {K : PySem.W.Frag} {mg : Str → Option Value} {base : Heap} {l : Nat} {f : Addr} {fd : FuncData} {ps : List Str} {k : Dek} {sp : DSp}
theorem fnd_ofN {x q : Str} {pa : Arguments} {bo : List Stmt} {sc : Scope} {N : List Str} (F : FunD K x q pa bo sc [] [] f fd) (S : FnScope N ps sc) (hl : ∀ ds n P, sp ds n P → ds.length = ps.length)
    (hbo : ∀ (cv : Value) (A : Around) (out : List Env) (s : Shared) (H : Hp) (E : XK) (W : Wd k) (ds : List D) (n : Int) (Q : D → Int → Prop), A.guards = some [] → Room l (A.deeper (envOfC q sc s.heap.objs.size f cv)) → sp ds n Q →
      ∃ t, DSs (cxOf CX0 P w K mg base N q sc f cv A out s H E).nox W bo t ∧ t { nx := fun S => Q .non S.dr, rt := fun d S => Q d S.dr } ⟨startD N ds, n⟩) : FnD P w K mg base (l + 1) f fd ps k sp := by
  have lN : ps.length ≤ N.length := by have := congrArg List.length S.pre; rw [List.length_take] at this; omega
  refine fng_of F S (fun vs H Q E ⟨G, ds, n, P, _, _, _, dv, h, _⟩ => (dva_len dv).trans (hl _ _ _ h)) fun cv A out s H vs Q E hG hr ⟨G, ds, n, R, sGH, g, dk, dv, h, q⟩ => ?_
  obtain ⟨t, ht, hq⟩ := hbo cv A out s H E (Wd.of k G H g) ds n R hG hr h
  have R0 := rep_start (K := K) (N := N) (by rw [hl _ _ _ h]; exact lN) sGH g dk dv
  have fin : ∀ d S' σ H' G' v, Same G G' → R d S'.dr → Rep (Wd.of k G H g) K G' H' σ S' → Dv K G' v d → Q v H' := fun d S' σ H' G' v s' r R' dv' => by
    refine q d S'.dr r v H' G' s' R'.gh (fun a o e => ?_) (fun a o e m => R'.fr a o ?_) R'.dk dv'
    · rcases R'.nw a o e with e | ⟨e, m⟩
      · exact .inl e
      · refine .inr ⟨?_, m⟩
        have e : (if a ∈ k.dk then none else H a) = none := e
        exact (if_neg (show a ∉ k.dk from m)).symm.trans e
    · show (if a ∈ k.dk then none else H a) = some o
      exact (if_neg (show a ∉ k.dk from m)).trans e
  exact ⟨_, PSs.nox ht, G, _, _, R0, hq, ⟨fun S' σ H' G' s' r R' => fin .non S' σ H' G' .non s' r R' .non, fun d S' σ H' G' v s' r R' dv' => fin d S' σ H' G' v s' r R' dv', fun _ _ _ _ _ z => z.elim, fun _ _ _ _ _ z => z.elim⟩⟩
end
section
variable {kk : Dek} {X : Cx} {W : Wd kk} {a o : Expr} {ta to : DT} {p p2 pos apos : Pos}
/-! ### x.upper() -/
def dUpper (to : DT) : DT := fun S P => to S fun x S1 => ∃ z, x = .str z ∧ z.length ≤ 5592405 ∧ P (.str (Txt.upper z)) S1
theorem de_upper (ho : DE X W o to) (hbase : attributeBase o "upper" X.env (eval o X.env) = eval o X.env := by rfl) (hline : (apos.endLine == pos.line) = true := by rfl) : DE X W (.Call (.Attribute o "upper" apos) [] [] pos) (dUpper to) := by
  refine pe_imp (pe_upper ho hbase hline) fun σ H Q ⟨G, S, P, R, p, q⟩ => ⟨G, S, _, R, p, fun x S1 ⟨z, ex, hz, p1⟩ v H1 G1 s1 R1 d1 => ?_⟩
  subst ex
  cases d1
  exact ⟨⟨z, rfl⟩, z, rfl, rfl, hz, q _ S1 p1 _ H1 G1 s1 R1 (.str _)⟩
/-! ### a, b = x, [] -/
def dPar2O (i j : Nat) (ta : DT) : DST := fun E S => ta S fun x S1 => E.nx ⟨setS (setS S1.ρ i (some (.v x))) j (some (.o (.lst []))), S1.dr⟩
theorem ds_par2O {i j : Nat} {x y : Str} {px py pt pl : Pos} {kt k2 pt2}
    (h : ∀ {t : TA}, PA X [a, .List [] pl] t → PS X (.Assign [.Tuple [.Name x px, .Name y py] kt pt] (.Tuple [a, .List [] pl] k2 pt2) pos) (tPar i j t)) (ha : DE X W a ta)
    (h1 : starEach [a, .List [] pl] X.env = (false, eval a X.env) :: starEach [.List [] pl] X.env := by rfl) (h2 : starEach [.List [] pl] X.env = (false, eval (.List [] pl) X.env) :: starEach [] X.env := by rfl) :
    DS X W (.Assign [.Tuple [.Name x px, .Name y py] kt pt] (.Tuple [a, .List [] pl] k2 pt2) pos) (dPar2O i j ta) := by
  refine ps_imp (h (pa_cons ha (pa_cons (pe_lst pa_nil) pa_nil h2) h1)) fun N σ H ⟨G, S, E, R, p, ok⟩ => ?_
  refine ⟨G, S, _, R, p, fun x S1 p1 v H1 G1 s1 R1 d1 => ⟨Nat.zero_le _, fun r hr => ?_⟩⟩
  obtain ⟨R2, f, no⟩ := R1.fresh (u := .lst []) hr
  refine ⟨_, _, rfl, ok.nx _ _ _ G1 s1 p1 ?_⟩
  have R3 := R2.setV (i := i) d1
  exact R3.setO (i := j) f (show Own X.K G1 _ r (.lst []) from ⟨[], upd_same, .nil⟩) (noOwn_setV no)
end
end Dl
namespace K01
open PySem PySem.Spec PyProof.Rows L2 L2H Sw Dl Ss
def top (i : Nat) : Stmt := PySem.Challenge.pw_streamwrights_k01_formats_of_any_value.main.body.getD i (.Pass ⟨0, 0, 0, 0⟩)
def inClass (s : Stmt) (j : Nat) : Stmt := match s with
  | .ClassDef _ _ _ body _ _ _ _ _ _ _ => body.getD j (.Pass ⟨0, 0, 0, 0⟩)
  | s => s
structure Tx (K : PySem.W.Frag) (mg : Str → Option Value) where
  f_BadFormat____init__ : Addr
  d_BadFormat____init__ : FuncData
  F_BadFormat____init__ : FunD K "__init__" "BadFormat.__init__" (defArgs (inClass (top 3) 0)) (defBody (inClass (top 3) 0)) (defScope (inClass (top 3) 0)) [] [] f_BadFormat____init__ d_BadFormat____init__
  f_is_integer : Addr
  d_is_integer : FuncData
  F_is_integer : FunD K "is_integer" "is_integer" (defArgs (top 18)) (defBody (top 18)) (defScope (top 18)) [] [] f_is_integer d_is_integer
  g_is_integer : mg "is_integer" = some (.ref f_is_integer)
  f_is_index : Addr
  d_is_index : FuncData
  F_is_index : FunD K "is_index" "is_index" (defArgs (top 19)) (defBody (top 19)) (defScope (top 19)) [] [] f_is_index d_is_index
  g_is_index : mg "is_index" = some (.ref f_is_index)
  f_is_letter : Addr
  d_is_letter : FuncData
  F_is_letter : FunD K "is_letter" "is_letter" (defArgs (top 20)) (defBody (top 20)) (defScope (top 20)) [] [] f_is_letter d_is_letter
  g_is_letter : mg "is_letter" = some (.ref f_is_letter)
  f_is_tuple_of : Addr
  d_is_tuple_of : FuncData
  F_is_tuple_of : FunD K "is_tuple_of" "is_tuple_of" (defArgs (top 21)) (defBody (top 21)) (defScope (top 21)) [] [] f_is_tuple_of d_is_tuple_of
  g_is_tuple_of : mg "is_tuple_of" = some (.ref f_is_tuple_of)
  f_is_ascending : Addr
  d_is_ascending : FuncData
  F_is_ascending : FunD K "is_ascending" "is_ascending" (defArgs (top 22)) (defBody (top 22)) (defScope (top 22)) [] [] f_is_ascending d_is_ascending
  g_is_ascending : mg "is_ascending" = some (.ref f_is_ascending)
  f_is_move : Addr
  d_is_move : FuncData
  F_is_move : FunD K "is_move" "is_move" (defArgs (top 41)) (defBody (top 41)) (defScope (top 41)) [] [] f_is_move d_is_move
  g_is_move : mg "is_move" = some (.ref f_is_move)
  f_wrong_moves : Addr
  d_wrong_moves : FuncData
  F_wrong_moves : FunD K "wrong_moves" "wrong_moves" (defArgs (top 42)) (defBody (top 42)) (defScope (top 42)) [] [] f_wrong_moves d_wrong_moves
  g_wrong_moves : mg "wrong_moves" = some (.ref f_wrong_moves)
  f_is_ends : Addr
  d_is_ends : FuncData
  F_is_ends : FunD K "is_ends" "is_ends" (defArgs (top 43)) (defBody (top 43)) (defScope (top 43)) [] [] f_is_ends d_is_ends
  g_is_ends : mg "is_ends" = some (.ref f_is_ends)
  f__law_deck : Addr
  d__law_deck : FuncData
  F__law_deck : FunD K "_law_deck" "_law_deck" (defArgs (top 46)) (defBody (top 46)) (defScope (top 46)) [] [] f__law_deck d__law_deck
  g__law_deck : mg "_law_deck" = some (.ref f__law_deck)
  f__law_draw : Addr
  d__law_draw : FuncData
  F__law_draw : FunD K "_law_draw" "_law_draw" (defArgs (top 47)) (defBody (top 47)) (defScope (top 47)) [] [] f__law_draw d__law_draw
  g__law_draw : mg "_law_draw" = some (.ref f__law_draw)
  f__law_pick : Addr
  d__law_pick : FuncData
  F__law_pick : FunD K "_law_pick" "_law_pick" (defArgs (top 48)) (defBody (top 48)) (defScope (top 48)) [] [] f__law_pick d__law_pick
  g__law_pick : mg "_law_pick" = some (.ref f__law_pick)
  f__law_drawn : Addr
  d__law_drawn : FuncData
  F__law_drawn : FunD K "_law_drawn" "_law_drawn" (defArgs (top 49)) (defBody (top 49)) (defScope (top 49)) [] [] f__law_drawn d__law_drawn
  g__law_drawn : mg "_law_drawn" = some (.ref f__law_drawn)
  f__law_no_state : Addr
  d__law_no_state : FuncData
  F__law_no_state : FunD K "_law_no_state" "_law_no_state" (defArgs (top 50)) (defBody (top 50)) (defScope (top 50)) [] [] f__law_no_state d__law_no_state
  g__law_no_state : mg "_law_no_state" = some (.ref f__law_no_state)
  f__law_spoilt_way : Addr
  d__law_spoilt_way : FuncData
  F__law_spoilt_way : FunD K "_law_spoilt_way" "_law_spoilt_way" (defArgs (top 51)) (defBody (top 51)) (defScope (top 51)) [] [] f__law_spoilt_way d__law_spoilt_way
  g__law_spoilt_way : mg "_law_spoilt_way" = some (.ref f__law_spoilt_way)
  f__law_spoilt : Addr
  d__law_spoilt : FuncData
  F__law_spoilt : FunD K "_law_spoilt" "_law_spoilt" (defArgs (top 52)) (defBody (top 52)) (defScope (top 52)) [] [] f__law_spoilt d__law_spoilt
  g__law_spoilt : mg "_law_spoilt" = some (.ref f__law_spoilt)
  f__law_is_in : Addr
  d__law_is_in : FuncData
  F__law_is_in : FunD K "_law_is_in" "_law_is_in" (defArgs (top 53)) (defBody (top 53)) (defScope (top 53)) [] [] f__law_is_in d__law_is_in
  g__law_is_in : mg "_law_is_in" = some (.ref f__law_is_in)
  f__law_is_way : Addr
  d__law_is_way : FuncData
  F__law_is_way : FunD K "_law_is_way" "_law_is_way" (defArgs (top 54)) (defBody (top 54)) (defScope (top 54)) [] [] f__law_is_way d__law_is_way
  g__law_is_way : mg "_law_is_way" = some (.ref f__law_is_way)
  f__law_fault : Addr
  d__law_fault : FuncData
  F__law_fault : FunD K "_law_fault" "_law_fault" (defArgs (top 55)) (defBody (top 55)) (defScope (top 55)) [] [] f__law_fault d__law_fault
  g__law_fault : mg "_law_fault" = some (.ref f__law_fault)
  f__law_heard : Addr
  d__law_heard : FuncData
  F__law_heard : FunD K "_law_heard" "_law_heard" (defArgs (top 56)) (defBody (top 56)) (defScope (top 56)) [] [] f__law_heard d__law_heard
  g__law_heard : mg "_law_heard" = some (.ref f__law_heard)
  f__law_right : Addr
  d__law_right : FuncData
  F__law_right : FunD K "_law_right" "_law_right" (defArgs (top 57)) (defBody (top 57)) (defScope (top 57)) [] [] f__law_right d__law_right
  g__law_right : mg "_law_right" = some (.ref f__law_right)
  f_law : Addr
  d_law : FuncData
  F_law : FunD K "law" "law" (defArgs (top 58)) (defBody (top 58)) (defScope (top 58)) [] [] f_law d_law
  g_law : mg "law" = some (.ref f_law)
  f_Format____init__ : Addr
  d_Format____init__ : FuncData
  F_Format____init__ : FunD K "__init__" "Format.__init__" (defArgs (inClass (top 44) 0)) (defBody (inClass (top 44) 0)) (defScope (inClass (top 44) 0)) [] [] f_Format____init__ d_Format____init__
  f_Format____len__ : Addr
  d_Format____len__ : FuncData
  F_Format____len__ : FunD K "__len__" "Format.__len__" (defArgs (inClass (top 44) 1)) (defBody (inClass (top 44) 1)) (defScope (inClass (top 44) 1)) [] [] f_Format____len__ d_Format____len__
  f_Format____eq__ : Addr
  d_Format____eq__ : FuncData
  F_Format____eq__ : FunD K "__eq__" "Format.__eq__" (defArgs (inClass (top 44) 2)) (defBody (inClass (top 44) 2)) (defScope (inClass (top 44) 2)) [] [] f_Format____eq__ d_Format____eq__
  b_int : mg "int" = none
  b_str : mg "str" = none
  b_bool : mg "bool" = none
  b_tuple : mg "tuple" = none
  b_isinstance : mg "isinstance" = none
  b_len : mg "len" = none
  b_all : mg "all" = none
  b_range : mg "range" = none
  b_list : mg "list" = none
  b_sorted : mg "sorted" = none
  b_set : mg "set" = none
  b_repr : mg "repr" = none
  b_zip : mg "zip" = none
  c_StreamError : Addr
  gc_StreamError : mg "StreamError" = some (.ref c_StreamError)
  xG : XcG K
  c_BadFormat : Addr
  gc_BadFormat : mg "BadFormat" = some (.ref c_BadFormat)
  x_BadFormat : XcC K c_BadFormat
  i_BadFormat : PySem.W.findIn K (.ref c_BadFormat) "__init__" = some (some (.ref f_BadFormat____init__))
  fn_BadFormat : PySem.W.isFn K (.ref f_BadFormat____init__) = true
  exm_BadFormat : PySem.W.exmOne K (.ref c_BadFormat) (.ref c_BadFormat) = some true
  kit_BadFormat : PySem.W.kitOne K (.ref c_BadFormat) (.ref c_StreamError) = some true
  c_Format : Addr
  gc_Format : mg "Format" = some (.ref c_Format)
  insFormat : InsC K c_Format
  mkFormat : Mk K c_Format f_Format____init__
  yesFormat : PySem.W.kitOne K (.ref c_Format) (.ref c_Format) = some true
  noKFormat : ∀ n ∈ tyNames, PySem.W.kitOne K (.type n) (.ref c_Format) = some false
  nfFormat : ∀ n ∈ tyNames, PySem.W.notFirst K c_Format (.type n) = true
  no_Format_size : NoAttr K c_Format "size"
  no_Format_moves : NoAttr K c_Format "moves"
  no_Format_ends : NoAttr K c_Format "ends"
  no_Format_letters : NoAttr K c_Format "letters"
  no_Format_steps : NoAttr K c_Format "steps"
  sp_Format_len : PySem.W.findIn K (.ref c_Format) "__len__" = some (some (.ref f_Format____len__))
  sf_Format_len : PySem.W.isFn K (.ref f_Format____len__) = true
  sp_Format_eq : PySem.W.findIn K (.ref c_Format) "__eq__" = some (some (.ref f_Format____eq__))
  sf_Format_eq : PySem.W.isFn K (.ref f_Format____eq__) = true
  ne_Format : PySem.W.findIn K (.ref c_Format) "__ne__" = some (some (.builtin "object.__ne__"))
theorem sc_BadFormat____init__ : FnScope ["self", "part"] ["self", "part"] (defScope (inClass (top 3) 0)) := ⟨rfl, rfl, rfl, by decide +kernel, rfl, by decide +kernel, by decide +kernel⟩
theorem bd_BadFormat____init__ {K : PySem.W.Frag} {mg : Str → Option Value} (T : Tx K mg) : Binds K T.d_BadFormat____init__ ["self", "part"] [] := T.F_BadFormat____init__.bindsN fun _ _ _ _ _ _ us hl => match us, hl with | [_, _], _ => rfl
theorem sc_is_integer : FnScope ["thing"] ["thing"] (defScope (top 18)) := ⟨rfl, rfl, rfl, by decide +kernel, rfl, by decide +kernel, by decide +kernel⟩
theorem bd_is_integer {K : PySem.W.Frag} {mg : Str → Option Value} (T : Tx K mg) : Binds K T.d_is_integer ["thing"] [] := T.F_is_integer.bindsN fun _ _ _ _ _ _ us hl => match us, hl with | [_], _ => rfl
theorem sc_is_index : FnScope ["thing", "size"] ["thing", "size"] (defScope (top 19)) := ⟨rfl, rfl, rfl, by decide +kernel, rfl, by decide +kernel, by decide +kernel⟩
theorem bd_is_index {K : PySem.W.Frag} {mg : Str → Option Value} (T : Tx K mg) : Binds K T.d_is_index ["thing", "size"] [] := T.F_is_index.bindsN fun _ _ _ _ _ _ us hl => match us, hl with | [_, _], _ => rfl
theorem sc_is_letter : FnScope ["thing"] ["thing"] (defScope (top 20)) := ⟨rfl, rfl, rfl, by decide +kernel, rfl, by decide +kernel, by decide +kernel⟩
theorem bd_is_letter {K : PySem.W.Frag} {mg : Str → Option Value} (T : Tx K mg) : Binds K T.d_is_letter ["thing"] [] := T.F_is_letter.bindsN fun _ _ _ _ _ _ us hl => match us, hl with | [_], _ => rfl
theorem sc_is_tuple_of : FnScope ["thing", "length"] ["thing", "length"] (defScope (top 21)) := ⟨rfl, rfl, rfl, by decide +kernel, rfl, by decide +kernel, by decide +kernel⟩
theorem bd_is_tuple_of {K : PySem.W.Frag} {mg : Str → Option Value} (T : Tx K mg) : Binds K T.d_is_tuple_of ["thing", "length"] [] := T.F_is_tuple_of.bindsN fun _ _ _ _ _ _ us hl => match us, hl with | [_, _], _ => rfl
theorem sc_is_ascending : FnScope ["rows", "at"] ["rows"] (defScope (top 22)) := ⟨rfl, rfl, rfl, by decide +kernel, rfl, by decide +kernel, by decide +kernel⟩
theorem bd_is_ascending {K : PySem.W.Frag} {mg : Str → Option Value} (T : Tx K mg) : Binds K T.d_is_ascending ["rows"] [] := T.F_is_ascending.bindsN fun _ _ _ _ _ _ us hl => match us, hl with | [_], _ => rfl
theorem sc_is_move : FnScope ["thing", "size"] ["thing", "size"] (defScope (top 41)) := ⟨rfl, rfl, rfl, by decide +kernel, rfl, by decide +kernel, by decide +kernel⟩
theorem bd_is_move {K : PySem.W.Frag} {mg : Str → Option Value} (T : Tx K mg) : Binds K T.d_is_move ["thing", "size"] [] := T.F_is_move.bindsN fun _ _ _ _ _ _ us hl => match us, hl with | [_, _], _ => rfl
theorem sc_wrong_moves : FnScope ["moves", "size", "move", "at"] ["moves", "size"] (defScope (top 42)) := ⟨rfl, rfl, rfl, by decide +kernel, rfl, by decide +kernel, by decide +kernel⟩
theorem bd_wrong_moves {K : PySem.W.Frag} {mg : Str → Option Value} (T : Tx K mg) : Binds K T.d_wrong_moves ["moves", "size"] [] := T.F_wrong_moves.bindsN fun _ _ _ _ _ _ us hl => match us, hl with | [_, _], _ => rfl
theorem sc_is_ends : FnScope ["thing", "size", "state"] ["thing", "size"] (defScope (top 43)) := ⟨rfl, rfl, rfl, by decide +kernel, rfl, by decide +kernel, by decide +kernel⟩
theorem bd_is_ends {K : PySem.W.Frag} {mg : Str → Option Value} (T : Tx K mg) : Binds K T.d_is_ends ["thing", "size"] [] := T.F_is_ends.bindsN fun _ _ _ _ _ _ us hl => match us, hl with | [_, _], _ => rfl
theorem sc__law_deck : FnScope ["_law_script", "_law_cells", "_law_mixed", "_law_cell"] ["_law_script"] (defScope (top 46)) := ⟨rfl, rfl, rfl, by decide +kernel, rfl, by decide +kernel, by decide +kernel⟩
theorem bd__law_deck {K : PySem.W.Frag} {mg : Str → Option Value} (T : Tx K mg) : Binds K T.d__law_deck ["_law_script"] [] := T.F__law_deck.bindsN fun _ _ _ _ _ _ us hl => match us, hl with | [_], _ => rfl
theorem sc__law_draw : FnScope ["_law_deck_here", "_law_below", "_law_turn", "_law_figure", "_law_cell"] ["_law_deck_here", "_law_below"] (defScope (top 47)) := ⟨rfl, rfl, rfl, by decide +kernel, rfl, by decide +kernel, by decide +kernel⟩
theorem bd__law_draw {K : PySem.W.Frag} {mg : Str → Option Value} (T : Tx K mg) : Binds K T.d__law_draw ["_law_deck_here", "_law_below"] [] := T.F__law_draw.bindsN fun _ _ _ _ _ _ us hl => match us, hl with | [_, _], _ => rfl
theorem sc__law_pick : FnScope ["_law_deck_here", "_law_some"] ["_law_deck_here", "_law_some"] (defScope (top 48)) := ⟨rfl, rfl, rfl, by decide +kernel, rfl, by decide +kernel, by decide +kernel⟩
theorem bd__law_pick {K : PySem.W.Frag} {mg : Str → Option Value} (T : Tx K mg) : Binds K T.d__law_pick ["_law_deck_here", "_law_some"] [] := T.F__law_pick.bindsN fun _ _ _ _ _ _ us hl => match us, hl with | [_, _], _ => rfl
theorem sc__law_drawn : FnScope ["_law_deck_here", "_law_top", "_law_signs", "_law_count", "_law_ways", "_law_state", "_law_sign"] ["_law_deck_here", "_law_top"] (defScope (top 49)) := ⟨rfl, rfl, rfl, by decide +kernel, rfl, by decide +kernel, by decide +kernel⟩
theorem bd__law_drawn {K : PySem.W.Frag} {mg : Str → Option Value} (T : Tx K mg) : Binds K T.d__law_drawn ["_law_deck_here", "_law_top"] [] := T.F__law_drawn.bindsN fun _ _ _ _ _ _ us hl => match us, hl with | [_, _], _ => rfl
theorem sc__law_no_state : FnScope ["_law_deck_here", "_law_count"] ["_law_deck_here", "_law_count"] (defScope (top 50)) := ⟨rfl, rfl, rfl, by decide +kernel, rfl, by decide +kernel, by decide +kernel⟩
theorem bd__law_no_state {K : PySem.W.Frag} {mg : Str → Option Value} (T : Tx K mg) : Binds K T.d__law_no_state ["_law_deck_here", "_law_count"] [] := T.F__law_no_state.bindsN fun _ _ _ _ _ _ us hl => match us, hl with | [_, _], _ => rfl
theorem sc__law_spoilt_way : FnScope ["_law_deck_here", "_law_count", "_law_way", "_law_near", "_law_sign", "_law_far", "_law_some"] ["_law_deck_here", "_law_count", "_law_way"] (defScope (top 51)) := ⟨rfl, rfl, rfl, by decide +kernel, rfl, by decide +kernel, by decide +kernel⟩
theorem bd__law_spoilt_way {K : PySem.W.Frag} {mg : Str → Option Value} (T : Tx K mg) : Binds K T.d__law_spoilt_way ["_law_deck_here", "_law_count", "_law_way"] [] := T.F__law_spoilt_way.bindsN fun _ _ _ _ _ _ us hl => match us, hl with | [_, _, _], _ => rfl
theorem sc__law_spoilt : FnScope ["_law_deck_here", "_law_plan", "_law_count", "_law_ways", "_law_goals", "_law_sort", "_law_at", "_law_some"] ["_law_deck_here", "_law_plan"] (defScope (top 52)) := ⟨rfl, rfl, rfl, by decide +kernel, rfl, by decide +kernel, by decide +kernel⟩
theorem bd__law_spoilt {K : PySem.W.Frag} {mg : Str → Option Value} (T : Tx K mg) : Binds K T.d__law_spoilt ["_law_deck_here", "_law_plan"] [] := T.F__law_spoilt.bindsN fun _ _ _ _ _ _ us hl => match us, hl with | [_, _], _ => rfl
theorem sc__law_is_in : FnScope ["_law_it", "_law_below"] ["_law_it", "_law_below"] (defScope (top 53)) := ⟨rfl, rfl, rfl, by decide +kernel, rfl, by decide +kernel, by decide +kernel⟩
theorem bd__law_is_in {K : PySem.W.Frag} {mg : Str → Option Value} (T : Tx K mg) : Binds K T.d__law_is_in ["_law_it", "_law_below"] [] := T.F__law_is_in.bindsN fun _ _ _ _ _ _ us hl => match us, hl with | [_, _], _ => rfl
theorem sc__law_is_way : FnScope ["_law_it", "_law_count"] ["_law_it", "_law_count"] (defScope (top 54)) := ⟨rfl, rfl, rfl, by decide +kernel, rfl, by decide +kernel, by decide +kernel⟩
theorem bd__law_is_way {K : PySem.W.Frag} {mg : Str → Option Value} (T : Tx K mg) : Binds K T.d__law_is_way ["_law_it", "_law_count"] [] := T.F__law_is_way.bindsN fun _ _ _ _ _ _ us hl => match us, hl with | [_, _], _ => rfl
theorem sc__law_fault : FnScope ["_law_plan", "_law_count", "_law_ways", "_law_goals", "_law_way", "_law_one_way", "_law_next_way", "_law_state"] ["_law_plan"] (defScope (top 55)) := ⟨rfl, rfl, rfl, by decide +kernel, rfl, by decide +kernel, by decide +kernel⟩
theorem bd__law_fault {K : PySem.W.Frag} {mg : Str → Option Value} (T : Tx K mg) : Binds K T.d__law_fault ["_law_plan"] [] := T.F__law_fault.bindsN fun _ _ _ _ _ _ us hl => match us, hl with | [_], _ => rfl
theorem sc__law_heard : FnScope ["_law_plan", "_law_is_named", "_law_found", "e"] ["_law_plan", "_law_is_named"] (defScope (top 56)) := ⟨rfl, rfl, rfl, by decide +kernel, rfl, by decide +kernel, by decide +kernel⟩
theorem bd__law_heard {K : PySem.W.Frag} {mg : Str → Option Value} (T : Tx K mg) : Binds K T.d__law_heard ["_law_plan", "_law_is_named"] [] := T.F__law_heard.bindsN fun _ _ _ _ _ _ us hl => match us, hl with | [_, _], _ => rfl
theorem sc__law_right : FnScope ["_law_plan", "_law_mate", "_law_was", "_law_due", "_law_told", "_law_signs", "_law_it", "_law_near", "_law_sign", "_law_far"] ["_law_plan", "_law_mate"] (defScope (top 57)) := ⟨rfl, rfl, rfl, by decide +kernel, rfl, by decide +kernel, by decide +kernel⟩
theorem bd__law_right {K : PySem.W.Frag} {mg : Str → Option Value} (T : Tx K mg) : Binds K T.d__law_right ["_law_plan", "_law_mate"] [] := T.F__law_right.bindsN fun _ _ _ _ _ _ us hl => match us, hl with | [_, _], _ => rfl
theorem sc_law : FnScope ["_law_script", "_law_deck_here", "_law_go", "_law_mate", "_law_bare", "_law_some", "_law_plan", "_law_other_plan", "_law_spoilt_here", "_law_sign", "_law_it"] ["_law_script"] (defScope (top 58)) := ⟨rfl, rfl, rfl, by decide +kernel, rfl, by decide +kernel, by decide +kernel⟩
theorem bd_law {K : PySem.W.Frag} {mg : Str → Option Value} (T : Tx K mg) : Binds K T.d_law ["_law_script"] [] := T.F_law.bindsN fun _ _ _ _ _ _ us hl => match us, hl with | [_], _ => rfl
theorem sc_Format____init__ : FnScope ["self", "size", "moves", "ends", "wrong", "state", "letter", "target", "_"] ["self", "size", "moves", "ends"] (defScope (inClass (top 44) 0)) := ⟨rfl, rfl, rfl, by decide +kernel, rfl, by decide +kernel, by decide +kernel⟩
theorem bd_Format____init__ {K : PySem.W.Frag} {mg : Str → Option Value} (T : Tx K mg) : Binds K T.d_Format____init__ ["self", "size", "moves", "ends"] [] := T.F_Format____init__.bindsN fun _ _ _ _ _ _ us hl => match us, hl with | [_, _, _, _], _ => rfl
theorem sc_Format____len__ : FnScope ["self"] ["self"] (defScope (inClass (top 44) 1)) := ⟨rfl, rfl, rfl, by decide +kernel, rfl, by decide +kernel, by decide +kernel⟩
theorem bd_Format____len__ {K : PySem.W.Frag} {mg : Str → Option Value} (T : Tx K mg) : Binds K T.d_Format____len__ ["self"] [] := T.F_Format____len__.bindsN fun _ _ _ _ _ _ us hl => match us, hl with | [_], _ => rfl
theorem sc_Format____eq__ : FnScope ["self", "other"] ["self", "other"] (defScope (inClass (top 44) 2)) := ⟨rfl, rfl, rfl, by decide +kernel, rfl, by decide +kernel, by decide +kernel⟩
theorem bd_Format____eq__ {K : PySem.W.Frag} {mg : Str → Option Value} (T : Tx K mg) : Binds K T.d_Format____eq__ ["self", "other"] [] := T.F_Format____eq__.bindsN fun _ _ _ _ _ _ us hl => match us, hl with | [_, _], _ => rfl
end K01
namespace K01
open PySem PySem.Spec PyProof.Rows L2 L2H Sw Dl Ss
section
variable {P : Program} {w : World} {K : PySem.W.Frag} {mg : Str → Option Value} {base : Heap} {k : Dek}
def isInt : D → Bool
  | .int _ => true
  | _ => false
def isIdx (m : Int) : D → Bool
  | .int i => decide (0 ≤ i) && decide (i < m)
  | _ => false
def az (c : Nat) : Bool := decide (97 ≤ c) && decide (c ≤ 122)
def isLet : D → Bool
  | .str z => decide (z.length = 1) && z.cps.toList.all az
  | _ => false
def isTupN (m : Int) : D → Bool
  | .tup ds => decide ((ds.length : Int) = m)
  | _ => false
def spInteger : DSp := fun ds n P => ∃ d, ds = [d] ∧ plain d = true ∧ P (.bl (isInt d)) n
theorem ok_is_integer (T : Tx K mg) : FnK P w K mg base 1 T.f_is_integer T.d_is_integer ["thing"] k spInteger := by
  refine fnk_of T.F_is_integer sc_is_integer (fun ds n P h => ?_) fun cv A out s H E W ds n Q hr h => ?_
  · obtain ⟨_, rfl, _⟩ := h; rfl
  obtain ⟨x0, rfl, h⟩ := h
  refine ⟨_, (dss_one (ds_ret (de_and (de_isi dc_isInt (by rfl) T.b_isinstance (by decide +kernel) (dn 0) (dty (T := "int") (by rfl) T.b_int (by decide +kernel))) (de_one (de_not (de_isi dc_isBool (by rfl) T.b_isinstance (by decide +kernel) (dn 0) (dty (T := "bool") (by rfl) T.b_bool (by decide +kernel)))))))), ?_⟩
  dsimp only [dRet, dBack, dJoin, dRetN, dSeq, dNext, dIfS, dAnd, dOr, dNot, dIf, dBool, dNotT, dAndT, dOrT, dBin, dChain, dCall, dCB, dCons, dNil, dTup, dLst, dVar, dC, dAsg, gN, gsNil, gsCons, gT, dSetO, dFor, dIAny, dIR1, dIR2, dIZip, dIEnum, dIRev, dLc, dYes, dDrop, dPar, dWhile, ownL, putO, dAppend, dExtend, dPop, dIxO, dLenO, dIx, dIsiE, dSl, dNoP, dP, dNeg, getS, setS, startD, wipeD, back, List.map]
  obtain ⟨hp, h⟩ := h
  cases x0 <;> first | (exact absurd hp Bool.false_ne_true) | exact h
def spIndex : DSp := fun ds n P => ∃ d e, ds = [d, e] ∧ ∃ m, e = .int m ∧ plain d = true ∧ P (.bl (isIdx m d)) n
theorem ok_is_index (T : Tx K mg) : FnK P w K mg base 2 T.f_is_index T.d_is_index ["thing", "size"] k spIndex := by
  refine fnk_of T.F_is_index sc_is_index (fun ds n P h => ?_) fun cv A out s H E W ds n Q hr h => ?_
  · obtain ⟨_, _, rfl, _⟩ := h; rfl
  obtain ⟨x0, x1, rfl, h⟩ := h
  refine ⟨_, (dss_one (ds_ret (de_and (de_callK (ok_is_integer T) (hr.mono (by first | decide | omega)) (by rfl) T.g_is_integer T.F_is_integer.kp (bd_is_integer T) (da_cons (dn 0) da_nil)) (de_one (de_chain do_le do_lt de_int (dn 0) (dn 1)))))), ?_⟩
  dsimp only [dRet, dBack, dJoin, dRetN, dSeq, dNext, dIfS, dAnd, dOr, dNot, dIf, dBool, dNotT, dAndT, dOrT, dBin, dChain, dCall, dCB, dCons, dNil, dTup, dLst, dVar, dC, dAsg, gN, gsNil, gsCons, gT, dSetO, dFor, dIAny, dIR1, dIR2, dIZip, dIEnum, dIRev, dLc, dYes, dDrop, dPar, dWhile, ownL, putO, dAppend, dExtend, dPop, dIxO, dLenO, dIx, dIsiE, dSl, dNoP, dP, dNeg, getS, setS, startD, wipeD, back, List.map]
  obtain ⟨m, rfl, hp, h⟩ := h
  refine ⟨x0, rfl, hp, ?_⟩
  cases x0 with
  | int i => exact onB_and (a := decide (0 ≤ i)) h
  | _ => exact h
theorem one_sign {z : Str} (h : z.length = 1) : ∃ c, z = ⟨#[c]⟩ := by
  obtain ⟨⟨l⟩⟩ := z
  match l, h with
  | [c], _ => exact ⟨c, rfl⟩
theorem chain_az (c : Nat) : (!strLt ⟨#[c]⟩ "a" && !strLt "z" ⟨#[c]⟩) = az c := by
  unfold strLt az
  have e1 : ("a" : Str).cps.toList = [97] := by decide
  have e2 : ("z" : Str).cps.toList = [122] := by decide
  rw [e1, e2]
  have h1 : ([c] < [97]) ↔ c < 97 := by simp [List.cons_lt_cons_iff]
  have h2 : ([122] < [c]) ↔ 122 < c := by simp [List.cons_lt_cons_iff]
  have e3 : (⟨#[c]⟩ : Str).cps.toList = [c] := rfl
  rw [e3, Bool.eq_iff_iff]
  simp only [Bool.and_eq_true, Bool.not_eq_true', decide_eq_false_iff_not, decide_eq_true_eq, h1, h2]
  omega
def spLetter : DSp := fun ds n P => ∃ d, ds = [d] ∧ plain d = true ∧ (∀ z, d = .str z → z.length ≤ 1000000) ∧ P (.bl (isLet d)) n
theorem ok_is_letter (T : Tx K mg) : FnK P w K mg base 1 T.f_is_letter T.d_is_letter ["thing"] k spLetter := by
  refine fnk_of T.F_is_letter sc_is_letter (fun ds n P h => ?_) fun cv A out s H E W ds n Q hr h => ?_
  · obtain ⟨_, rfl, _⟩ := h; rfl
  obtain ⟨x0, rfl, h⟩ := h
  refine ⟨_, (dss_one (ds_ret (de_and (de_isi dc_isStr (by rfl) T.b_isinstance (by decide +kernel) (dn 0) (dty (T := "str") (by rfl) T.b_str (by decide +kernel))) (de_and (de_cmp (DOpB.op (do_eq hr.units)) (de_callB dc_len (by rfl) T.b_len (by decide +kernel) (da_cons (dn 0) da_nil)) de_int) (de_one (de_chain do_le do_le de_str (dn 0) de_str)))))), ?_⟩
  dsimp only [dRet, dBack, dJoin, dRetN, dSeq, dNext, dIfS, dAnd, dOr, dNot, dIf, dBool, dNotT, dAndT, dOrT, dBin, dChain, dCall, dCB, dCons, dNil, dTup, dLst, dVar, dC, dAsg, gN, gsNil, gsCons, gT, dSetO, dFor, dIAny, dIR1, dIR2, dIZip, dIEnum, dIRev, dLc, dYes, dDrop, dPar, dWhile, ownL, putO, dAppend, dExtend, dPop, dIxO, dLenO, dIx, dIsiE, dSl, dNoP, dP, dNeg, getS, setS, startD, wipeD, back, List.map]
  obtain ⟨hp, hz, h⟩ := h
  cases x0 with
  | str z =>
    have lz := line_big
    have := hz z rfl
    refine ⟨by omega, onB_of (fun h1 => ?_) fun h1 => ?_⟩
    · have h1 : z.length = 1 := by have := of_decide_eq_true h1; omega
      obtain ⟨c, rfl⟩ := one_sign h1
      have e : isLet (.str ⟨#[c]⟩) = az c := by
        show (decide (Str.length ⟨#[c]⟩ = 1) && (az c && true)) = _
        rw [decide_eq_true h1, Bool.true_and, Bool.and_true]
      rw [e, ← chain_az] at h
      exact onB_and h
    · have h1 : ¬ z.length = 1 := by have := of_decide_eq_false h1; omega
      have e : isLet (.str z) = false := by
        show (decide (z.length = 1) && _) = false
        rw [decide_eq_false h1, Bool.false_and]
      rw [e] at h
      exact h
  | ins _ _ _ => exact absurd hp Bool.false_ne_true
  | «at» _ => exact absurd hp Bool.false_ne_true
  | _ => exact h
def spTupN : DSp := fun ds n P => ∃ d e, ds = [d, e] ∧ ∃ m, e = .int m ∧ plain d = true ∧ P (.bl (isTupN m d)) n
theorem ok_is_tuple_of (T : Tx K mg) : FnK P w K mg base 1 T.f_is_tuple_of T.d_is_tuple_of ["thing", "length"] k spTupN := by
  refine fnk_of T.F_is_tuple_of sc_is_tuple_of (fun ds n P h => ?_) fun cv A out s H E W ds n Q hr h => ?_
  · obtain ⟨_, _, rfl, _⟩ := h; rfl
  obtain ⟨x0, x1, rfl, h⟩ := h
  refine ⟨_, (dss_one (ds_ret (de_and (de_isi dc_isTup (by rfl) T.b_isinstance (by decide +kernel) (dn 0) (dty (T := "tuple") (by rfl) T.b_tuple (by decide +kernel))) (de_one (de_cmp (DOpB.op (do_eq hr.units)) (de_callB dc_len (by rfl) T.b_len (by decide +kernel) (da_cons (dn 0) da_nil)) (dn 1)))))), ?_⟩
  dsimp only [dRet, dBack, dJoin, dRetN, dSeq, dNext, dIfS, dAnd, dOr, dNot, dIf, dBool, dNotT, dAndT, dOrT, dBin, dChain, dCall, dCB, dCons, dNil, dTup, dLst, dVar, dC, dAsg, gN, gsNil, gsCons, gT, dSetO, dFor, dIAny, dIR1, dIR2, dIZip, dIEnum, dIRev, dLc, dYes, dDrop, dPar, dWhile, ownL, putO, dAppend, dExtend, dPop, dIxO, dLenO, dIx, dIsiE, dSl, dNoP, dP, dNeg, getS, setS, startD, wipeD, back, List.map]
  obtain ⟨m, rfl, hp, h⟩ := h
  cases x0 with
  | tup ds => exact h
  | ins _ _ _ => exact absurd hp Bool.false_ne_true
  | «at» _ => exact absurd hp Bool.false_ne_true
  | _ => exact h
end
end K01
namespace K01
open PySem PySem.Spec PyProof.Rows L2 L2H Sw Dl Ss
section
variable {P : Program} {w : World} {K : PySem.W.Frag} {mg : Str → Option Value} {base : Heap} {k : Dek}
def spAsc {α : Type} [DecidableEq α] [PySem.W.DatumOrd α] (κ : Kn α) : DSp := fun ds n P => ∃ d, ds = [d] ∧ ∃ as : List α, (d = .tup (as.map κ.e) ∨ d = .lst (as.map κ.e)) ∧ as.length ≤ 100000 ∧ P (.bl (ascB as)) n
theorem ok_is_ascending {α : Type} [DecidableEq α] [PySem.W.DatumOrd α] (κ : Kn α)(T : Tx K mg) : FnK P w K mg base 1 T.f_is_ascending T.d_is_ascending ["rows"] k (spAsc κ) := by
  refine fnk_of T.F_is_ascending sc_is_ascending (fun ds n P h => ?_) fun cv A out s H E W ds n Q hr h => ?_
  · obtain ⟨_, rfl, _⟩ := h; rfl
  obtain ⟨x0, rfl, h⟩ := h
  refine ⟨_, (dss_one (ds_ret (de_callB (dc_all rfl) (by rfl) T.b_all (by decide +kernel) (da_cons (DO.de (do_lc (own := [("at", 1)]) rfl sc_is_ascending.nd (di_range2 (by rfl) T.b_range (da_cons de_int (da_cons (de_callB dc_len (by rfl) T.b_len (by decide +kernel) (da_cons (dn 0) da_nil)) da_nil))) (blkOk_by (N := ["rows", "at"]) (sc := defScope (top 22)) (by decide +kernel)) (fun _ _ _ _ _ _ => (dg_name (i := 1) sc_is_ascending.nd rfl (by first | exact .inl rfl | exact .inr rfl))) (fun _ _ _ _ _ _ => dts_nil) (fun _ _ _ _ _ _ => (de_cmp (DOpB.op (do_ltK κ hr.units)) (de_ix (dn 0) (de_op do_op_sub (dn 1) de_int) (fun _ _ => rfl)) (de_ix (dn 0) (dn 1) (fun _ _ => rfl)))))) da_nil)))), ?_⟩
  dsimp only [dRet, dBack, dJoin, dRetN, dSeq, dNext, dIfS, dAnd, dOr, dNot, dIf, dBool, dNotT, dAndT, dOrT, dBin, dChain, dCall, dCB, dCons, dNil, dTup, dLst, dVar, dC, dAsg, gN, gsNil, gsCons, gT, dSetO, dFor, dIAny, dIR1, dIR2, dIZip, dIEnum, dIRev, dLc, dYes, dDrop, dPar, dWhile, ownL, putO, dAppend, dExtend, dPop, dIxO, dLenO, dIx, dIsiE, dSl, dNoP, dP, dNeg, getS, setS, startD, wipeD, back, List.map]
  obtain ⟨as, hd, hlen, h⟩ := h
  have lz := line_big
  refine seqLen_of hd _ ?_
  dsimp only
  refine ⟨⟨by omega, by omega, by omega, by omega⟩, ?_⟩
  have en : ((as.length : Nat) : Int) - 1 = ((as.length - 1 : Nat) : Int) ∨ as.length = 0 := by omega
  refine lcL_map (fun d => match d with
    | .int i => .bl (ltAt as (i.toNat - 1))
    | d => d) _ (fun d hd' A hA => ?_) (by unfold upto; rw [List.length_map, List.length_range]; omega) ?_
  · unfold upto at hd'
    obtain ⟨i, hi, rfl⟩ := List.mem_map.mp hd'
    have hi := List.mem_range.mp hi
    have hi2 : i + 1 < as.length := by omega
    obtain ⟨e1, e2⟩ := seqIx_of hd (i := 1 + (i : Int) - 1) (j := i) (by omega) (List.getElem?_eq_getElem (by omega))
    obtain ⟨e3, e4⟩ := seqIx_of hd (i := 1 + (i : Int)) (j := i + 1) (by omega) (List.getElem?_eq_getElem hi2)
    dsimp only [dRet, dBack, dJoin, dRetN, dSeq, dNext, dIfS, dAnd, dOr, dNot, dIf, dBool, dNotT, dAndT, dOrT, dBin, dChain, dCall, dCB, dCons, dNil, dTup, dLst, dVar, dC, dAsg, gN, gsNil, gsCons, gT, dSetO, dFor, dIAny, dIR1, dIR2, dIZip, dIEnum, dIRev, dLc, dYes, dDrop, dPar, dWhile, ownL, putO, dAppend, dExtend, dPop, dIxO, dLenO, dIx, dIsiE, dSl, dNoP, dP, dNeg, getS, setS, startD, wipeD, back, List.map]
    refine ⟨trivial, e1, ?_⟩
    rw [e2]
    refine ⟨e3, ?_⟩
    rw [e4]
    refine ⟨_, _, rfl, rfl, ?_⟩
    have el : ltAt as ((1 + (i : Int)).toNat - 1) = PySem.W.DatumOrd.lt (as[i]'(by omega)) (as[i + 1]'hi2) := by
      have : (1 + (i : Int)).toNat - 1 = i := by omega
      rw [this]
      unfold ltAt
      rw [List.getElem?_eq_getElem (show i < as.length by omega), List.getElem?_eq_getElem hi2]
    have := hA ⟨[some (.v x0), some (.v (.int (1 + (i : Nat))))], n⟩ rfl
    dsimp only at this
    rw [el] at this
    exact this
  · have e : ((upto 1 (((as.length : Nat) : Int) - 1).toNat).map fun d => match d with
      | .int i => D.bl (ltAt as (i.toNat - 1))
      | d => d) = ((List.range (as.length - 1)).map fun i => ltAt as i).map D.bl := by
      unfold upto
      rw [List.map_map, List.map_map]
      have : (((as.length : Nat) : Int) - 1).toNat = as.length - 1 := by omega
      rw [this]
      refine List.map_congr_left fun i _ => ?_
      show D.bl (ltAt as ((1 + (i : Int)).toNat - 1)) = _
      have : (1 + (i : Int)).toNat - 1 = i := by omega
      rw [this]; rfl
    rw [e]
    refine dBools_map ?_
    rw [List.all_map]
    exact h
end
end K01
namespace K01
open PySem PySem.Spec PyProof.Rows L2 L2H Sw Dl Ss
/-! ### moves, ends: any values -/
abbrev R3 := PySem.W.T3 Int Str Int
def mD (p : R3) : D := .tup [.int p.1, .str p.2, .int p.3]
def azS (z : Str) : Bool := z.cps.toList.all az
def isMove (m : Int) : D → Bool
  | .tup [a, b, c] => isIdx m a && (isLet b && isIdx m c)
  | _ => false
def m3Of : D → R3
  | .tup [.int i, .str z, .int j] => ⟨i, z, j⟩
  | _ => ⟨0, "", 0⟩
def iOf : D → Int
  | .int i => i
  | _ => 0
def twin : List R3 → Option R3
  | a :: b :: r => if a.1 = b.1 ∧ a.2 = b.2 then some b else twin (b :: r)
  | _ => none
def wrongV (m : Int) : D → List D
  | .tup ds => match ds.find? fun d => !isMove m d with
    | some d => [d]
    | none => if ascB (ds.map m3Of) then ((twin (ds.map m3Of)).map mD).toList else [.str "order"]
  | _ => [.str "moves"]
def isEnds (m : Int) : D → Bool
  | .tup ds => ds.all (isIdx m) && ascB (ds.map iOf)
  | _ => false
structure VM (n : Int) (p : R3) : Prop where
  a0 : 0 ≤ p.1
  a1 : p.1 < n
  b : ∃ c, p.2 = chr c ∧ az c = true
  d0 : 0 ≤ p.3
  d1 : p.3 < n
theorem idx_iff {m i : Int} : isIdx m (.int i) = true ↔ 0 ≤ i ∧ i < m := by
  show (decide (0 ≤ i) && decide (i < m)) = true ↔ _
  rw [Bool.and_eq_true, decide_eq_true_eq, decide_eq_true_eq]
theorem idx_of {m : Int} {d : D} (h : isIdx m d = true) : ∃ i, d = .int i ∧ 0 ≤ i ∧ i < m := by
  cases d with
  | int i => exact ⟨i, rfl, idx_iff.mp h⟩
  | _ => cases h
theorem let_of {d : D} (h : isLet d = true) : ∃ c, d = .str (chr c) ∧ az c = true := by
  cases d with
  | str z =>
    obtain ⟨h1, h2⟩ := Bool.and_eq_true_iff.mp (show (decide (z.length = 1) && z.cps.toList.all az) = true from h)
    obtain ⟨c, rfl⟩ := one_sign (of_decide_eq_true h1)
    have h2 : (az c && true) = true := h2
    rw [Bool.and_true] at h2
    exact ⟨c, rfl, h2⟩
  | _ => cases h
theorem let_c {c : Nat} : isLet (.str (chr c)) = az c := by
  show (decide ((1 : Nat) = 1) && (az c && true)) = az c
  simp
theorem azS_c {c : Nat} : azS (chr c) = az c := by
  show (az c && true) = az c
  simp
theorem move_of {m : Int} {d : D} (h : isMove m d = true) : ∃ p, d = mD p ∧ VM m p ∧ m3Of d = p := by
  unfold isMove at h
  split at h
  · rename_i a b c
    obtain ⟨h1, h⟩ := Bool.and_eq_true_iff.mp h
    obtain ⟨h2, h3⟩ := Bool.and_eq_true_iff.mp h
    obtain ⟨i, rfl, i0, i1⟩ := idx_of h1
    obtain ⟨j, rfl, j0, j1⟩ := idx_of h3
    obtain ⟨x, rfl, hx⟩ := let_of h2
    exact ⟨⟨i, chr x, j⟩, rfl, ⟨i0, i1, ⟨x, rfl, hx⟩, j0, j1⟩, rfl⟩
  · cases h
theorem moves_of {m : Int} : ∀ {ds : List D}, ds.all (isMove m) = true → ∃ ps : List R3, ds = ps.map mD ∧ (∀ p ∈ ps, VM m p) ∧ ds.map m3Of = ps
  | [], _ => ⟨[], rfl, (fun p h => by cases h), rfl⟩
  | d :: ds, h => by
    rw [List.all_cons, Bool.and_eq_true] at h
    obtain ⟨p, e1, e2, e3⟩ := move_of h.1
    obtain ⟨ps, f1, f2, f3⟩ := moves_of h.2
    exact ⟨p :: ps, by rw [e1, f1]; rfl, fun q hq => (List.mem_cons.mp hq).elim (fun e => e ▸ e2) (f2 q), by rw [List.map_cons, e3, f3]⟩
theorem ends_of {m : Int} : ∀ {ds : List D}, ds.all (isIdx m) = true → ∃ ps : List Int, ds = ps.map D.int ∧ (∀ p ∈ ps, 0 ≤ p ∧ p < m) ∧ ds.map iOf = ps
  | [], _ => ⟨[], rfl, (fun p h => by cases h), rfl⟩
  | d :: ds, h => by
    rw [List.all_cons, Bool.and_eq_true] at h
    obtain ⟨p, e1, e2, e3⟩ := idx_of h.1
    obtain ⟨ps, f1, f2, f3⟩ := ends_of h.2
    subst e1
    exact ⟨p :: ps, by rw [f1]; rfl, fun q hq => (List.mem_cons.mp hq).elim (fun e => e ▸ ⟨e2, e3⟩) (f2 q), by rw [List.map_cons, f3]; rfl⟩
theorem vm_move {m : Int} {p : R3} (v : VM m p) : isMove m (mD p) = true := by
  obtain ⟨c, ec, hc⟩ := v.b
  show (isIdx m (.int p.1) && (isLet (.str p.2) && isIdx m (.int p.3))) = true
  rw [idx_iff.mpr ⟨v.a0, v.a1⟩, idx_iff.mpr ⟨v.d0, v.d1⟩, ec, let_c, hc]; rfl
theorem find_none {m : Int} {ds : List D} : (ds.find? fun d => !isMove m d) = none ↔ ds.all (isMove m) = true := by
  rw [List.find?_eq_none, List.all_eq_true]
  constructor
  · intro h d hd
    have := h d hd
    simpa using this
  · intro h d hd
    simp [h d hd]
theorem m3_all (l : List R3) : (l.map mD).map m3Of = l := by
  rw [List.map_map, show (m3Of ∘ mD) = id from funext fun p => rfl, List.map_id]
theorem wrong_v {m : Int} {ps : List R3} (v : ∀ p ∈ ps, VM m p) : wrongV m (.tup (ps.map mD)) = if ascB ps then ((twin ps).map mD).toList else [.str "order"] := by
  have h1 : ((ps.map mD).find? fun d => !isMove m d) = none := find_none.mpr (List.all_eq_true.mpr fun d hd => by
    obtain ⟨p, hp, rfl⟩ := List.mem_map.mp hd
    exact vm_move (v p hp))
  show (match (ps.map mD).find? (fun d => !isMove m d) with
    | some d => [d]
    | none => if ascB ((ps.map mD).map m3Of) then ((twin ((ps.map mD).map m3Of)).map mD).toList else [.str "order"]) = _
  rw [h1, m3_all]
theorem tupN_not {ds : List D} {m : Int} (h : (ds.length : Int) ≠ m) : isTupN m (.tup ds) = false := decide_eq_false h
theorem isEnds_v {m : Int} {ps : List Int} (v : ∀ p ∈ ps, 0 ≤ p ∧ p < m) : isEnds m (.tup (ps.map D.int)) = ascB ps := by
  have h1 : (ps.map D.int).all (isIdx m) = true := List.all_eq_true.mpr fun d hd => by
    obtain ⟨p, hp, rfl⟩ := List.mem_map.mp hd
    exact idx_iff.mpr (v p hp)
  show ((ps.map D.int).all (isIdx m) && ascB ((ps.map D.int).map iOf)) = _
  rw [h1, Bool.true_and, List.map_map, show (iOf ∘ D.int) = id from funext fun p => rfl, List.map_id]
theorem map_bl (f : D → Bool) (l : List D) : (l.map fun d => D.bl (f d)) = (l.map f).map D.bl := by rw [List.map_map]; rfl
section
variable {P : Program} {w : World} {K : PySem.W.Frag} {mg : Str → Option Value} {base : Heap} {k : Dek}
def spMove : DSp := fun ds n P => ∃ d e, ds = [d, e] ∧ ∃ m, e = .int m ∧ anyD d = true ∧ P (.bl (isMove m d)) n
theorem ok_is_move (T : Tx K mg) : FnK P w K mg base 3 T.f_is_move T.d_is_move ["thing", "size"] k spMove := by
  refine fnk_of T.F_is_move sc_is_move (fun ds n P h => ?_) fun cv A out s H E W ds n Q hr h => ?_
  · obtain ⟨_, _, rfl, _⟩ := h; rfl
  obtain ⟨x0, x1, rfl, h⟩ := h
  refine ⟨_, (dss_one (ds_ret (de_and (de_callK (ok_is_tuple_of T) (hr.mono (by first | decide | omega)) (by rfl) T.g_is_tuple_of T.F_is_tuple_of.kp (bd_is_tuple_of T) (da_cons (dn 0) (da_cons de_int da_nil))) (de_and (de_callK (ok_is_index T) (hr.mono (by first | decide | omega)) (by rfl) T.g_is_index T.F_is_index.kp (bd_is_index T) (da_cons (de_ix (dn 0) de_int (fun _ _ => rfl)) (da_cons (dn 1) da_nil))) (de_and (de_callK (ok_is_letter T) (hr.mono (by first | decide | omega)) (by rfl) T.g_is_letter T.F_is_letter.kp (bd_is_letter T) (da_cons (de_ix (dn 0) de_int (fun _ _ => rfl)) da_nil)) (de_one (de_callK (ok_is_index T) (hr.mono (by first | decide | omega)) (by rfl) T.g_is_index T.F_is_index.kp (bd_is_index T) (da_cons (de_ix (dn 0) de_int (fun _ _ => rfl)) (da_cons (dn 1) da_nil))))))))), ?_⟩
  dsimp only [dRet, dBack, dJoin, dRetN, dSeq, dNext, dIfS, dAnd, dOr, dNot, dIf, dBool, dNotT, dAndT, dOrT, dBin, dChain, dCall, dCB, dCons, dNil, dTup, dLst, dVar, dC, dAsg, gN, gsNil, gsCons, gT, dSetO, dFor, dIAny, dIR1, dIR2, dIZip, dIEnum, dIRev, dLc, dYes, dDrop, dPar, dWhile, ownL, putO, dAppend, dExtend, dPop, dIxO, dLenO, dIx, dIsiE, dSl, dNoP, dP, dNeg, getS, setS, startD, wipeD, back, List.map]
  obtain ⟨m, rfl, hd, hq⟩ := h
  refine ⟨_, _, rfl, 3, rfl, any_plain hd, ?_⟩
  match x0, hd, hq with
  | .tup [a, b, c], hd, hq =>
    obtain ⟨_, hi⟩ := any_tup hd
    ((repeat ((conv => whnf); first | refine ⟨(fun z e => by cases e), ?_⟩ | refine ⟨_, _, _, rfl, rfl, ?_⟩ | refine ⟨_, _, _, _, rfl, rfl, rfl, ?_⟩ | refine ⟨rfl, ?_⟩ | refine ⟨Nat.le_of_ble_eq_true rfl, ?_⟩ | refine ⟨by decide, ?_⟩)); (conv => whnf))
    refine ⟨_, _, rfl, m, rfl, any_plain (hi a (by simp)), ?_⟩
    have e : isMove m (.tup [a, b, c]) = (isIdx m a && (isLet b && isIdx m c)) := rfl
    rw [e] at hq
    cases h1 : isIdx m a with
    | false => rw [h1] at hq; exact hq
    | true =>
      rw [h1, Bool.true_and] at hq
      ((repeat ((conv => whnf); first | refine ⟨(fun z e => by cases e), ?_⟩ | refine ⟨_, _, _, rfl, rfl, ?_⟩ | refine ⟨_, _, _, _, rfl, rfl, rfl, ?_⟩ | refine ⟨rfl, ?_⟩ | refine ⟨Nat.le_of_ble_eq_true rfl, ?_⟩ | refine ⟨by decide, ?_⟩)); (conv => whnf))
      refine ⟨_, rfl, any_plain (hi b (by simp)), (fun z e => any_str (by rw [← e]; exact hi b (by simp))), ?_⟩
      cases h3 : isLet b with
      | false => rw [h3] at hq; exact hq
      | true =>
        rw [h3, Bool.true_and] at hq
        ((repeat ((conv => whnf); first | refine ⟨(fun z e => by cases e), ?_⟩ | refine ⟨_, _, _, rfl, rfl, ?_⟩ | refine ⟨_, _, _, _, rfl, rfl, rfl, ?_⟩ | refine ⟨rfl, ?_⟩ | refine ⟨Nat.le_of_ble_eq_true rfl, ?_⟩ | refine ⟨by decide, ?_⟩)); (conv => whnf))
        exact ⟨_, _, rfl, m, rfl, any_plain (hi c (by simp)), hq⟩
  | .tup [], hd, hq => exact hq
  | .tup [_], hd, hq => exact hq
  | .tup [_, _], hd, hq => exact hq
  | .tup (a :: b :: c :: d :: r), hd, hq =>
    rw [tupN_not (ds := a :: b :: c :: d :: r) (m := 3) (by simp only [List.length_cons]; omega)]
    exact hq
  | .non, hd, hq => exact hq
  | .bl _, hd, hq => exact hq
  | .int _, hd, hq => exact hq
  | .str _, hd, hq => exact hq
  | .lst _, hd, hq => exact hq
  | .dk _ _, hd, hq => exact hq
  | .dt _ _, hd, hq => exact hq
  | .ins _ _ _, hd, hq => exact absurd hd Bool.false_ne_true
  | .at _, hd, hq => exact absurd hd Bool.false_ne_true
def spEnds : DSp := fun ds n P => ∃ d e, ds = [d, e] ∧ ∃ m, e = .int m ∧ anyD d = true ∧ P (.bl (isEnds m d)) n
theorem ok_is_ends (T : Tx K mg) : FnK P w K mg base 3 T.f_is_ends T.d_is_ends ["thing", "size"] k spEnds := by
  refine fnk_of T.F_is_ends sc_is_ends (fun ds n P h => ?_) fun cv A out s H E W ds n Q hr h => ?_
  · obtain ⟨_, _, rfl, _⟩ := h; rfl
  obtain ⟨x0, x1, rfl, h⟩ := h
  refine ⟨_, (dss_one (ds_ret (de_and (de_isi dc_isTup (by rfl) T.b_isinstance (by decide +kernel) (dn 0) (dty (T := "tuple") (by rfl) T.b_tuple (by decide +kernel))) (de_and (de_callB (dc_all rfl) (by rfl) T.b_all (by decide +kernel) (da_cons (DO.de (do_lc (own := [("state", 2)]) rfl sc_is_ends.nd (di_any (dn 0)) (blkOk_by (N := ["thing", "size", "state"]) (sc := defScope (top 43)) (by decide +kernel)) (fun _ _ _ _ _ _ => (dg_name (i := 2) sc_is_ends.nd rfl (by first | exact .inl rfl | exact .inr rfl))) (fun _ _ _ _ _ _ => dts_nil) (fun _ _ _ _ _ _ => (de_callK (ok_is_index T) (hr.mono (by first | decide | omega)) (by rfl) T.g_is_index T.F_is_index.kp (bd_is_index T) (da_cons (dn 2) (da_cons (dn 1) da_nil)))))) da_nil)) (de_one (de_callK (ok_is_ascending knI T) (hr.mono (by first | decide | omega)) (by rfl) T.g_is_ascending T.F_is_ascending.kp (bd_is_ascending T) (da_cons (dn 0) da_nil))))))), ?_⟩
  dsimp only [dRet, dBack, dJoin, dRetN, dSeq, dNext, dIfS, dAnd, dOr, dNot, dIf, dBool, dNotT, dAndT, dOrT, dBin, dChain, dCall, dCB, dCons, dNil, dTup, dLst, dVar, dC, dAsg, gN, gsNil, gsCons, gT, dSetO, dFor, dIAny, dIR1, dIR2, dIZip, dIEnum, dIRev, dLc, dYes, dDrop, dPar, dWhile, ownL, putO, dAppend, dExtend, dPop, dIxO, dLenO, dIx, dIsiE, dSl, dNoP, dP, dNeg, getS, setS, startD, wipeD, back, List.map]
  obtain ⟨m, rfl, hd, hq⟩ := h
  have lz := line_big
  cases x0 with
  | tup ds =>
    obtain ⟨hl, hi⟩ := any_tup hd
    conv => whnf
    refine lcL_map (fun d => .bl (isIdx m d)) _ (fun d hd' A hA => ?_) (by omega) ?_
    · conv => whnf
      exact ⟨_, _, rfl, m, rfl, any_plain (hi d hd'), hA _ rfl⟩
    · rw [map_bl]
      refine dBools_map ?_
      rw [List.all_map]
      cases h1 : ds.all (isIdx m) with
      | false =>
        have e : isEnds m (.tup ds) = false := by show (ds.all (isIdx m) && _) = _; rw [h1, Bool.false_and]
        rw [e] at hq
        rw [show ds.all (id ∘ isIdx m) = false from h1]
        exact hq
      | true =>
        rw [show ds.all (id ∘ isIdx m) = true from h1]
        obtain ⟨ps, rfl, v, _⟩ := ends_of h1
        rw [isEnds_v v] at hq
        conv => whnf
        refine ⟨_, rfl, ps, .inl rfl, by rw [List.length_map] at hl; omega, ?_⟩
        exact hq
  | ins _ _ _ => exact absurd hd Bool.false_ne_true
  | «at» _ => exact absurd hd Bool.false_ne_true
  | _ => exact hq
end
end K01
namespace K01
open PySem PySem.Spec PyProof.Rows L2 L2H Sw Dl Ss
theorem twin_drop : ∀ (ps : List R3) (i : Nat) {a b : R3}, ps[i]? = some a → ps[i + 1]? = some b → ¬ (a.1 = b.1 ∧ a.2 = b.2) → twin (ps.drop i) = twin (ps.drop (i + 1)) := fun ps i a b h1 h2 h => by
  obtain ⟨l1, e1⟩ := List.getElem?_eq_some_iff.mp h1
  obtain ⟨l2, e2⟩ := List.getElem?_eq_some_iff.mp h2
  rw [List.drop_eq_getElem_cons l1, List.drop_eq_getElem_cons l2, e1, e2]
  show (if a.1 = b.1 ∧ a.2 = b.2 then some b else twin (b :: _)) = _
  rw [if_neg h]
theorem twin_hit : ∀ (ps : List R3) (i : Nat) {a b : R3}, ps[i]? = some a → ps[i + 1]? = some b → (a.1 = b.1 ∧ a.2 = b.2) → twin (ps.drop i) = some b := fun ps i a b h1 h2 h => by
  obtain ⟨l1, e1⟩ := List.getElem?_eq_some_iff.mp h1
  obtain ⟨l2, e2⟩ := List.getElem?_eq_some_iff.mp h2
  rw [List.drop_eq_getElem_cons l1, List.drop_eq_getElem_cons l2, e1, e2]
  show (if a.1 = b.1 ∧ a.2 = b.2 then some b else twin (b :: _)) = _
  rw [if_pos h]
theorem twin_short : ∀ {ps : List R3}, ps.length ≤ 1 → twin ps = none
  | [], _ => rfl
  | [_], _ => rfl
  | _ :: _ :: _, h => by simp at h
theorem az_lt {c : Nat} (h : az c = true) : c < 123 := by
  obtain ⟨_, h⟩ := Bool.and_eq_true_iff.mp (show (decide (97 ≤ c) && decide (c ≤ 122)) = true from h)
  have := of_decide_eq_true h
  omega
theorem good_key {m : Int} (hm : m ≤ 1000) {p : R3} (v : VM m p) : GoodD (.tup [.int p.1, .str p.2]) := by
  obtain ⟨c, ec, hc⟩ := v.b
  have := v.a0
  have := v.a1
  have := az_lt hc
  refine ⟨rfl, ⟨?_, Nat.le_of_ble_eq_true rfl, ?_⟩⟩
  · show (decide (p.1.natAbs < 10 ^ 7) && (asc p.2 && true)) = true
    rw [decide_eq_true (show p.1.natAbs < 10 ^ 7 by omega), ec]
    show (true && ((decide (c < 128) && true) && true)) = true
    rw [decide_eq_true (show c < 128 by omega)]; rfl
  · have : p.2.length = 1 := by rw [ec]; rfl
    simp [toPy, toPys, PyData.bulk, PyData.bulkAll, this]
    have : p.b.cps.size = 1 := this
    omega
theorem eq_key (p q : R3) : eqD (.tup [.int p.1, .str p.2]) (.tup [.int q.1, .str q.2]) = decide (p.1 = q.1 ∧ p.2 = q.2) := by
  show PyData.eqvAll [.int p.1, .str p.2] [.int q.1, .str q.2] = _
  simp only [PyData.eqvAll, PyData.eqv, Bool.and_true]
  rw [Bool.beq_eq_decide_eq, Bool.beq_eq_decide_eq, Bool.decide_and]
section
variable {P : Program} {w : World} {K : PySem.W.Frag} {mg : Str → Option Value} {base : Heap} {k : Dek}
def spWrong : DSp := fun ds n P => ∃ d e, ds = [d, e] ∧ ∃ m, e = .int m ∧ m ≤ 999 ∧ anyD d = true ∧ P (.tup (wrongV m d)) n
theorem ok_wrong_moves (T : Tx K mg) : FnK P w K mg base 4 T.f_wrong_moves T.d_wrong_moves ["moves", "size"] k spWrong := by
  refine fnk_of T.F_wrong_moves sc_wrong_moves (fun ds n P h => ?_) fun cv A out s H E W ds n Q hr h => ?_
  · obtain ⟨_, _, rfl, _⟩ := h; rfl
  obtain ⟨x, _, rfl, m, rfl, hm, hd, hq⟩ := h
  refine ⟨_, (dss_cons (ds_if (dt_not (dt_val (de_isi dc_isTup (by rfl) T.b_isinstance (by decide +kernel) (dn 0) (dty (T := "tuple") (by rfl) T.b_tuple (by decide +kernel))))) (dss_one (ds_ret (de_tup (da_cons de_str da_nil)))) dss_nil)
      (dss_cons (ds_for PassesOwn.never rfl (di_any (dn 0)) (dg_name (i := 2) sc_wrong_moves.nd rfl (by first | exact .inl rfl | exact .inr rfl)) (dss_one (ds_if (dt_not (dt_val (de_callK (ok_is_move T) (hr.mono (by first | decide | omega)) (by rfl) T.g_is_move T.F_is_move.kp (bd_is_move T) (da_cons (dn 2) (da_cons (dn 1) da_nil))))) (dss_one (ds_ret (de_tup (da_cons (dn 2) da_nil)))) dss_nil)))
      (dss_cons (ds_if (dt_not (dt_val (de_callK (ok_is_ascending knISI T) (hr.mono (by first | decide | omega)) (by rfl) T.g_is_ascending T.F_is_ascending.kp (bd_is_ascending T) (da_cons (dn 0) da_nil)))) (dss_one (ds_ret (de_tup (da_cons de_str da_nil)))) dss_nil)
      (dss_cons (ds_for PassesOwn.never rfl (di_range2 (by rfl) T.b_range (da_cons de_int (da_cons (de_callB dc_len (by rfl) T.b_len (by decide +kernel) (da_cons (dn 0) da_nil)) da_nil))) (dg_name (i := 3) sc_wrong_moves.nd rfl (by first | exact .inl rfl | exact .inr rfl)) (dss_one (ds_if (dt_cmp (DOpB.op (do_eq hr.units)) (de_sl (de_ix (dn 0) (dn 3) (fun _ _ => rfl)) dp_none (dp_some de_int)) (de_sl (de_ix (dn 0) (de_op do_op_sub (dn 3) de_int) (fun _ _ => rfl)) dp_none (dp_some de_int))) (dss_one (ds_ret (de_tup (da_cons (de_ix (dn 0) (dn 3) (fun _ _ => rfl)) da_nil)))) dss_nil)))
      (dss_one (ds_ret (de_tup da_nil))))))), ?_⟩
  have lz := line_big
  cases x with
  | tup ds =>
    obtain ⟨hl, hi⟩ := any_tup hd
    refine seqE ⟨[some (.v (.tup ds)), some (.v (.int m)), none, none], n⟩ (fun N hN => ?_) ?_
    · ((repeat ((conv => whnf); first | refine ⟨(fun z e => by cases e), ?_⟩ | refine ⟨_, _, _, rfl, rfl, ?_⟩ | refine ⟨_, _, _, _, rfl, rfl, rfl, ?_⟩ | refine ⟨rfl, ?_⟩ | refine ⟨Nat.le_of_ble_eq_true rfl, ?_⟩ | refine ⟨by decide, ?_⟩)); (conv => whnf))
      exact hN
    refine seqS (fun S' => ∃ v2, S' = ⟨[some (.v (.tup ds)), some (.v (.int m)), v2, none], n⟩ ∧ ds.all (isMove m) = true) (fun N hN => ?_) ?_
    · conv => whnf
      refine forL_J (fun (rest : List D) (S : Ds) => ∃ v2, S = ⟨[some (.v (.tup ds)), some (.v (.int m)), v2, none], n⟩ ∧ (ds.find? fun d => !isMove m d) = rest.find? fun d => !isMove m d) _ _ ?_ ?_ ⟨none, rfl, rfl⟩
      · rintro d rest S ⟨pre, epre⟩ ⟨v2, rfl, hf⟩ N2 hN2
        have hd' : d ∈ ds := by rw [epre]; simp
        conv => whnf
        refine ⟨_, _, rfl, m, rfl, hi d hd', ?_⟩
        refine onT_of (b := !isMove m d) (fun h => ?_) (fun h => ?_)
        · rw [List.find?_cons_of_pos (by simpa using h)] at hf
          have e : wrongV m (.tup ds) = [d] := by
            show (match ds.find? (fun d => !isMove m d) with
              | some d => [d]
              | none => if ascB (ds.map m3Of) then ((twin (ds.map m3Of)).map mD).toList else [.str "order"]) = _
            rw [hf]
          rw [e] at hq
          ((repeat ((conv => whnf); first | refine ⟨(fun z e => by cases e), ?_⟩ | refine ⟨_, _, _, rfl, rfl, ?_⟩ | refine ⟨_, _, _, _, rfl, rfl, rfl, ?_⟩ | refine ⟨rfl, ?_⟩ | refine ⟨Nat.le_of_ble_eq_true rfl, ?_⟩ | refine ⟨by decide, ?_⟩)); (conv => whnf))
          exact hq
        · rw [List.find?_cons_of_neg (by simpa using h)] at hf
          exact hN2 _ ⟨_, rfl, hf⟩
      · rintro S ⟨v2, rfl, hf⟩
        exact hN _ ⟨v2, rfl, find_none.mp hf⟩
    rintro _ ⟨v2, rfl, hall⟩
    obtain ⟨ps, rfl, v, _⟩ := moves_of hall
    rw [wrong_v v] at hq
    rw [List.length_map] at hl
    refine seqS (fun S' => S' = ⟨[some (.v (.tup (ps.map mD))), some (.v (.int m)), v2, none], n⟩ ∧ ascB ps = true) (fun N hN => ?_) ?_
    · ((repeat ((conv => whnf); first | refine ⟨(fun z e => by cases e), ?_⟩ | refine ⟨_, _, _, rfl, rfl, ?_⟩ | refine ⟨_, _, _, _, rfl, rfl, rfl, ?_⟩ | refine ⟨rfl, ?_⟩ | refine ⟨Nat.le_of_ble_eq_true rfl, ?_⟩ | refine ⟨by decide, ?_⟩)); (conv => whnf))
      refine ⟨_, rfl, ps, .inl rfl, by omega, ?_⟩
      refine onT_of (b := !ascB ps) (fun h => ?_) (fun h => ?_)
      · rw [if_neg (by simpa using h)] at hq
        ((repeat ((conv => whnf); first | refine ⟨(fun z e => by cases e), ?_⟩ | refine ⟨_, _, _, rfl, rfl, ?_⟩ | refine ⟨_, _, _, _, rfl, rfl, rfl, ?_⟩ | refine ⟨rfl, ?_⟩ | refine ⟨Nat.le_of_ble_eq_true rfl, ?_⟩ | refine ⟨by decide, ?_⟩)); (conv => whnf))
        exact hq
      · exact hN _ ⟨rfl, by simpa using h⟩
    rintro _ ⟨rfl, hasc⟩
    rw [if_pos hasc] at hq
    refine seqS (fun S' => (∃ v3, S' = ⟨[some (.v (.tup (ps.map mD))), some (.v (.int m)), v2, v3], n⟩) ∧ twin ps = none) (fun N hN => ?_) ?_
    · conv => whnf
      refine ⟨⟨by decide, by decide, by omega, by rw [List.length_map]; omega⟩, ?_⟩
      have eu : (upto 1 (((List.map mD ps).length : Int) - 1).toNat).length = ps.length - 1 := by unfold upto; rw [List.length_map, List.length_range, List.length_map]; omega
      refine forL_J (fun (rest : List D) (S : Ds) => (∃ v3, S = ⟨[some (.v (.tup (ps.map mD))), some (.v (.int m)), v2, v3], n⟩) ∧ ∃ j, j + rest.length = ps.length - 1 ∧ twin ps = twin (ps.drop j)) _ _ ?_ ?_ ⟨⟨none, rfl⟩, 0, by rw [eu]; omega, rfl⟩
      · rintro d rest S ⟨pre, epre⟩ ⟨⟨v3, rfl⟩, j, hj, ht⟩ N2 hN2
        rw [List.length_cons] at hj
        have hp : pre.length = j := by
          have := congrArg List.length epre
          rw [eu, List.length_append, List.length_cons] at this
          omega
        obtain rfl : d = .int ((j + 1 : Nat) : Int) := by
          have e : (upto 1 (((List.map mD ps).length : Int) - 1).toNat)[pre.length]? = some d := by rw [epre]; simp
          unfold upto at e
          rw [List.getElem?_map, List.getElem?_range (by rw [List.length_map]; omega)] at e
          cases e
          rw [hp]
          show D.int (1 + (j : Int)) = _
          congr 1
          omega
        have l1 : j < ps.length := by omega
        have l2 : j + 1 < ps.length := by omega
        have g1 : ps[j]? = some ps[j] := List.getElem?_eq_getElem l1
        have g2 : ps[j + 1]? = some ps[j + 1] := List.getElem?_eq_getElem l2
        have i1 : ixD (.tup (List.map mD ps)) (.int ((j + 1 : Nat) : Int)) = some (mD ps[j + 1]) := atI_nat (by rw [List.getElem?_map, g2]; rfl)
        have i2 : ixD (.tup (List.map mD ps)) (.int (((j + 1 : Nat) : Int) - 1)) = some (mD ps[j]) := by
          rw [show ((j + 1 : Nat) : Int) - 1 = (j : Int) by omega]
          exact atI_nat (by rw [List.getElem?_map, g1]; rfl)
        ((repeat ((conv => whnf); first | refine ⟨(fun z e => by cases e), ?_⟩ | refine ⟨_, _, _, rfl, rfl, ?_⟩ | refine ⟨_, _, _, _, rfl, rfl, rfl, ?_⟩ | refine ⟨rfl, ?_⟩ | refine ⟨Nat.le_of_ble_eq_true rfl, ?_⟩ | refine ⟨by decide, ?_⟩)); (conv => whnf))
        rw [i1]
        ((repeat ((conv => whnf); first | refine ⟨(fun z e => by cases e), ?_⟩ | refine ⟨_, _, _, rfl, rfl, ?_⟩ | refine ⟨_, _, _, _, rfl, rfl, rfl, ?_⟩ | refine ⟨rfl, ?_⟩ | refine ⟨Nat.le_of_ble_eq_true rfl, ?_⟩ | refine ⟨by decide, ?_⟩)); (conv => whnf))
        refine ⟨trivial, ?_⟩
        conv => whnf
        refine ⟨(fun z e => by cases e), ?_⟩
        rw [show ixD (.tup (List.map mD ps)) ((fun i j => D.int (i - j)) ((j + 1 : Nat) : Int) 1) = some (mD ps[j]) from i2]
        conv => whnf
        refine ⟨good_key (by omega) (v _ (List.getElem_mem l2)), good_key (by omega) (v _ (List.getElem_mem l1)), ?_⟩
        refine onT_of (b := eqD (.tup [.int ps[j + 1].1, .str ps[j + 1].2]) (.tup [.int ps[j].1, .str ps[j].2])) (fun h => ?_) (fun h => ?_)
        · rw [eq_key, decide_eq_true_eq] at h
          rw [ht, twin_hit ps j g1 g2 ⟨h.1.symm, h.2.symm⟩] at hq
          ((repeat ((conv => whnf); first | refine ⟨(fun z e => by cases e), ?_⟩ | refine ⟨_, _, _, rfl, rfl, ?_⟩ | refine ⟨_, _, _, _, rfl, rfl, rfl, ?_⟩ | refine ⟨rfl, ?_⟩ | refine ⟨Nat.le_of_ble_eq_true rfl, ?_⟩ | refine ⟨by decide, ?_⟩)); (conv => whnf))
          rw [i1]
          ((repeat ((conv => whnf); first | refine ⟨(fun z e => by cases e), ?_⟩ | refine ⟨_, _, _, rfl, rfl, ?_⟩ | refine ⟨_, _, _, _, rfl, rfl, rfl, ?_⟩ | refine ⟨rfl, ?_⟩ | refine ⟨Nat.le_of_ble_eq_true rfl, ?_⟩ | refine ⟨by decide, ?_⟩)); (conv => whnf))
          exact hq
        · rw [eq_key, decide_eq_false_iff_not] at h
          exact hN2 _ ⟨⟨_, rfl⟩, j + 1, by omega, ht.trans (twin_drop ps j g1 g2 fun e => h ⟨e.1.symm, e.2.symm⟩)⟩
      · rintro S ⟨⟨v3, rfl⟩, j, hj, ht⟩
        refine hN _ ⟨⟨v3, rfl⟩, ?_⟩
        rw [ht]
        have : j + 0 = ps.length - 1 := hj
        exact twin_short (by rw [List.length_drop]; omega)
    rintro _ ⟨⟨v3, rfl⟩, ht⟩
    rw [ht] at hq
    ((repeat ((conv => whnf); first | refine ⟨(fun z e => by cases e), ?_⟩ | refine ⟨_, _, _, rfl, rfl, ?_⟩ | refine ⟨_, _, _, _, rfl, rfl, rfl, ?_⟩ | refine ⟨rfl, ?_⟩ | refine ⟨Nat.le_of_ble_eq_true rfl, ?_⟩ | refine ⟨by decide, ?_⟩)); (conv => whnf))
    exact hq
  | ins _ _ _ => exact absurd hd Bool.false_ne_true
  | «at» _ => exact absurd hd Bool.false_ne_true
  | _ =>
    ((repeat ((conv => whnf); first | refine ⟨(fun z e => by cases e), ?_⟩ | refine ⟨_, _, _, rfl, rfl, ?_⟩ | refine ⟨_, _, _, _, rfl, rfl, rfl, ?_⟩ | refine ⟨rfl, ?_⟩ | refine ⟨Nat.le_of_ble_eq_true rfl, ?_⟩ | refine ⟨by decide, ?_⟩)); (conv => whnf))
    exact hq
end
end K01
namespace K01
open PySem PySem.Spec PyProof.Rows L2 L2H Sw Dl Ss
theorem scL_J {vs : List Nat} {g : DGT} {te : DT} {P : List Str → Ds → Prop} (J : List D → List Str → Ds → Prop) : ∀ (ds : List D) (acc : List Str) (S : Ds), (∀ d ds' acc S, (d ∈ ds ∨ True) → J (d :: ds') acc S → ∀ N : List Str → Ds → Prop, (∀ acc' S', J ds' acc' S' → N acc' S') → g d ⟨wipeD S.ρ vs, S.dr⟩ fun S2 => te S2 fun x S3 => ∃ z, x = .str z ∧ acc.length + 1 < scanBound ∧ N (acc ++ [z]) ⟨wipeD S3.ρ vs, S3.dr⟩) →
    (∀ acc S, J [] acc S → P acc S) → J ds acc S → scL vs g te P ds acc S
  | [], acc, S, _, h, j => h acc S j
  | d :: ds, acc, S, st, h, j => st d ds acc S (.inr trivial) j (fun acc S => scL vs g te P ds acc S) fun acc' S' j' => scL_J J ds acc' S' (fun d ds' acc S _ => st d ds' acc S (.inr trivial)) h j'
theorem sub_len {α : Type} [DecidableEq α] : ∀ {kb ks : List α}, kb.Nodup → (∀ x ∈ kb, x ∈ ks) → kb.length ≤ ks.length
  | [], _, _, _ => Nat.zero_le _
  | b :: r, ks, nd, h => by
    obtain ⟨n1, n2⟩ := List.nodup_cons.mp nd
    have hb := h b (by simp)
    have := sub_len (kb := r) (ks := ks.erase b) n2 fun x hx => (List.mem_erase_of_ne (fun e : x = b => n1 (by rw [← e]; exact hx))).mpr (h x (List.mem_cons_of_mem _ hx))
    rw [List.length_erase_of_mem hb] at this
    have : 0 < ks.length := List.length_pos_of_mem hb
    rw [List.length_cons]; omega
theorem ones_sum {zs : List Str} (h : ∀ z ∈ zs, z.length = 1) : (zs.map (·.length)).sum = zs.length := by
  induction zs with
  | nil => rfl
  | cons z zs ih =>
    rw [List.map_cons, List.sum_cons, h z (List.mem_cons_self ..), ih fun y hy => h y (List.mem_cons_of_mem _ hy), List.length_cons]; omega
theorem dcL_J {vs : List Nat} {g : DGT} {tk tv : DT} {P : D → Ds → Prop} (J : List D → List (List Key × D) → Ds → Prop) : ∀ (ds : List D) (acc : List (List Key × D)) (S : Ds), (∀ d ds' acc S, J (d :: ds') acc S → ∀ N : List (List Key × D) → Ds → Prop, (∀ acc' S', J ds' acc' S' → N acc' S') → g d ⟨wipeD S.ρ vs, S.dr⟩ fun S2 => tk S2 fun x S3 => tv S3 fun y S4 => ∃ es k, x = .tup es ∧ keyOf es = some k ∧ acc.length < sizeLine ∧ N (putD acc k y) ⟨wipeD S4.ρ vs, S4.dr⟩) →
    (∀ acc S, J [] acc S → P (.dt (acc.map (·.1)) (acc.map (·.2))) S) → J ds acc S → dcL vs g tk tv P ds acc S
  | [], acc, S, _, h, j => h acc S j
  | d :: ds, acc, S, st, h, j => st d ds acc S j (fun acc S => dcL vs g tk tv P ds acc S) fun acc' S' j' => dcL_J J ds acc' S' st h j'
theorem put_len {acc : List (List Key × D)} {k : List Key} {y : D} : (putD acc k y).length ≤ acc.length + 1 := by
  unfold putD
  split
  · rw [List.length_map]; omega
  · rw [List.length_append]; exact Nat.le_refl _
abbrev trN : List Str := ["size", "moves", "ends", "letters", "steps"]
def dueF (s v e : D) : List D := match s with
  | .int m => if 1 ≤ m ∧ m ≤ 999 then (match wrongV m v with
    | d :: _ => [d]
    | [] => if isEnds m e then [] else [.str "ends"]) else [.str "size"]
  | _ => [.str "size"]
def lets (v : D) : List Str := match v with
  | .tup ds => (ds.map m3Of).map (·.2)
  | _ => []
def spTr (CB : Addr) : DSpI := fun ds P X => ∃ s v e, ds = [s, v, e] ∧ anyD s = true ∧ anyD v = true ∧ anyD e = true ∧ (∀ es, v = .tup es → es.length ≤ 1000) ∧
  (dueF s v e = [] → ∀ ys : List Str, sortedS ys = true → ys.Nodup → (∀ z, z ∈ ys ↔ z ∈ lets v) → ∀ g, P [s, v, e, .str (Txt.join "" ys), g]) ∧ (∀ d, dueF s v e = [d] → X CB ["part"] [d])
section
variable {P : Program} {w : World} {K : PySem.W.Frag} {mg : Str → Option Value} {base : Heap}
theorem ok_BadFormat_init (T : Tx K mg) : FnOk P w K mg base CX0 1 T.f_BadFormat____init__ T.d_BadFormat____init__ ["self", "part"] (spBI K "part") := by
  refine T.F_BadFormat____init__.ok sc_BadFormat____init__ (fun vs H Q E h => ?_) (fun cdv A outer s H vs Q E hr h => ?_)
  · obtain ⟨a, C, v, rfl, _⟩ := h; rfl
  · obtain ⟨a, C, v, rfl, hT, ha, k⟩ := h
    exact ⟨_, PSs.nox (pss_one (ps_xst (pv 0) (pv 1))), _, rfl, _, rfl, a, C, rfl, hT, by decide, .inl ⟨ha, fun dx hdx hne => k dx hdx hne⟩⟩
set_option maxHeartbeats 4000000 in
theorem ok_init (T : Tx K mg) : FnOk P w K mg base (L2N.CX P w) 5 T.f_Format____init__ T.d_Format____init__ ["self", "size", "moves", "ends"] (spIniX K T.c_Format trN (spTr T.c_BadFormat)) := by
  refine T.F_Format____init__.ok (CX := L2N.CX P w) sc_Format____init__ (fun vs H Q E h => ?_) (fun cv A out s H vs Q E hr h => ?_)
  · obtain ⟨x, dx, us, G, ds, PP, XX, rfl, _, _, _, dv, ⟨_, _, _, rfl, _⟩, _⟩ := h
    have := dva_len dv
    show us.length + 1 = 4
    rw [this]; rfl
  obtain ⟨x, dx, us, G, ds, PP, XX, rfl, hx, gx, gh, dv, ⟨d1, d2, d3, rfl, a1, a2, a3, hlen, hP, hX⟩, hok, hbad⟩ := h
  have lz := line_big
  obtain ⟨v1, v2, v3, rfl, dv1, dv2, dv3⟩ : ∃ v1 v2 v3, us = [v1, v2, v3] ∧ Dv K G v1 d1 ∧ Dv K G v2 d2 ∧ Dv K G v3 d3 := by
    cases dv with
    | cons a1 a2 =>
      cases a2 with
      | cons b1 b2 =>
        cases b2 with
        | cons c1 c2 => cases c2; exact ⟨_, _, _, rfl, a1, b1, c1⟩
  obtain ⟨W2, eB, eF⟩ : ∃ W2 : Wd kk0, W2.B = G ∧ W2.F = fun a => if a = x then none else H a := ⟨⟨G, fun a => if a = x then none else H a, (fun a h => by cases h), fun a h => by cases h⟩, rfl, rfl⟩
  have nx : x ∉ kk0.dk := fun h => by cases h
  have fx : W2.F x = none := by rw [eF]; exact if_pos rfl
  have bx : W2.B x = none := by rw [eB]; exact gx
  have hg0 : ∀ a ∈ kk0.dk, G a = none := fun a h => by cases h
  have eW : Wd.of kk0 G H hg0 = W2.plus x (.ins T.c_Format dx []) nx := by
    refine Wd.ext' eB.symm ?_
    funext a
    show (if a ∈ ([] : List Addr) then none else H a) = upd W2.F x _ a
    rw [if_neg (by simp)]
    by_cases e : a = x
    · subst e; rw [upd_same, hx]
    · rw [upd_ne e, eF]; exact (if_neg e).symm
  have hF : ∀ a, (Wd.of kk0 G H hg0).F a = none → a ∉ kk0.dk → H a = none := fun a e m => wd_free e m
  have tk : L2N.Takes (cxOf (L2N.CX P w) P w K mg base ["self", "size", "moves", "ends", "wrong", "state", "letter", "target", "_"] "Format.__init__" (defScope (inClass (top 44) 0)) T.f_Format____init__ cv A out s H E) (wxD (Wd.of kk0 G H hg0) K (List.length ["self", "size", "moves", "ends", "wrong", "state", "letter", "target", "_"]) fun C ns es _ => XX C ns es) := by
    refine (L2N.takes_of rfl rfl rfl (E := E) rfl).imp fun c d σ H' hw => ?_
    obtain ⟨_, C, dd, G', n', fs, es, rfl, rfl, R', hdd, dv', fr, hx2⟩ := hw
    obtain ⟨b1, b2⟩ := wd_fin R'
    exact hbad C _ es hx2 dd fs H' G' R'.bg R'.gh (fun a o e => (b1 a o e).imp id fun z => z.1) (fun a o _ e => b2 a o e fun h => by cases h) hdd rfl dv' fr.g (wd_free fr.f fr.d)
  have R0 := rep_start (K := K) (k := kk0) (n := 0) (vs := [.ref x, v1, v2, v3]) (ds := [.at (.ref x), d1, d2, d3]) (N := ["self", "size", "moves", "ends", "wrong", "state", "letter", "target", "_"]) (by show 4 ≤ 9; decide) gh hg0 trivial (.cons (.at _) (.cons dv1 (.cons dv2 (.cons dv3 .nil))))
  have R0 : Rep (Wd.of kk0 G H hg0) K G H _ ⟨[some (.v (.at (.ref x))), some (.v d1), some (.v d2), some (.v d3), none, none, none, none, none], 0⟩ := R0
  refine ⟨_, (pss_cons (show DS _ (Wd.of kk0 G H hg0) _ _ from (ds_if (dt_w (dw_or (dt_not (dt_val (de_callK (ok_is_integer T) (hr.mono (by first | decide | omega)) (by rfl) T.g_is_integer T.F_is_integer.kp (bd_is_integer T) (da_cons (dn 1) da_nil)))) (dw_or (dt_cmp (DOpB.op do_lt) (dn 1) de_int) (dw_or1 (dt_cmp (DOpB.op do_gt) (dn 1) de_int))))) (dss_one (ds_raise1 (l := 1) rfl rfl tk hF T.x_BadFormat T.i_BadFormat T.fn_BadFormat (ok_BadFormat_init T) (hr.mono (by first | decide | omega)) (bd_BadFormat____init__ T) (by rfl) T.gc_BadFormat de_str)) dss_nil)) (pss_cons (show DS _ (Wd.of kk0 G H hg0) _ _ from (ds_set (i := 4) sc_Format____init__.nd rfl (by first | exact .inl rfl | exact .inr rfl) (de_callK (ok_wrong_moves T) (hr.mono (by first | decide | omega)) (by rfl) T.g_wrong_moves T.F_wrong_moves.kp (bd_wrong_moves T) (da_cons (dn 2) (da_cons (dn 1) da_nil))))) (pss_cons (show DS _ (Wd.of kk0 G H hg0) _ _ from (ds_if (dt_cmp (DOpB.op (do_neNil hr.units)) (dn 4) (de_tup da_nil)) (dss_one (ds_raise1 (l := 1) rfl rfl tk hF T.x_BadFormat T.i_BadFormat T.fn_BadFormat (ok_BadFormat_init T) (hr.mono (by first | decide | omega)) (bd_BadFormat____init__ T) (by rfl) T.gc_BadFormat (de_ix (dn 4) de_int (fun _ _ => rfl)))) dss_nil)) (pss_cons (show DS _ (Wd.of kk0 G H hg0) _ _ from (ds_if (dt_not (dt_val (de_callK (ok_is_ends T) (hr.mono (by first | decide | omega)) (by rfl) T.g_is_ends T.F_is_ends.kp (bd_is_ends T) (da_cons (dn 3) (da_cons (dn 1) da_nil))))) (dss_one (ds_raise1 (l := 1) rfl rfl tk hF T.x_BadFormat T.i_BadFormat T.fn_BadFormat (ok_BadFormat_init T) (hr.mono (by first | decide | omega)) (bd_BadFormat____init__ T) (by rfl) T.gc_BadFormat de_str)) dss_nil))
    (pss_cons (ps_fld (pv 0) (pe_anyE (kk := kk0) fun _ => (dn 1)) rfl) (pss_cons (ps_fld (pv 0) (pe_anyE (kk := kk0) fun _ => (dn 2)) rfl) (pss_cons (ps_fld (pv 0) (pe_anyE (kk := kk0) fun _ => (dn 3)) rfl)
    (pss_cons (ps_fld (pv 0) (pe_anyE (kk := kk0) fun _ => (de_join de_str (DO.de (do_sortSc (own := [("_", 8), ("letter", 6), ("_", 8)]) rfl (by rfl) T.b_sorted sc_Format____init__.nd (di_any (dn 2)) (blkOk_by (N := ["self", "size", "moves", "ends", "wrong", "state", "letter", "target", "_"]) (sc := defScope (inClass (top 44) 0)) (by decide +kernel)) (fun _ _ _ _ _ _ => (dg_tup (n := 3) rfl (dgs_cons (dg_name (i := 8) sc_Format____init__.nd rfl (by first | exact .inl rfl | exact .inr rfl)) (dgs_cons (dg_name (i := 6) sc_Format____init__.nd rfl (by first | exact .inl rfl | exact .inr rfl)) (dgs_cons (dg_name (i := 8) sc_Format____init__.nd rfl (by first | exact .inl rfl | exact .inr rfl)) dgs_nil))))) (fun _ _ _ _ _ _ => (dn 6)))))) rfl) (pss_one (ps_fld (pv 0) (pe_anyE (kk := kk0) fun _ => (DO.de (do_dc (own := [("state", 5), ("letter", 6), ("target", 7)]) hr.units0 rfl sc_Format____init__.nd (di_any (dn 2)) (blkOk_by (N := ["self", "size", "moves", "ends", "wrong", "state", "letter", "target", "_"]) (sc := defScope (inClass (top 44) 0)) (by decide +kernel)) (fun _ _ _ _ _ _ => (dg_tup (n := 3) rfl (dgs_cons (dg_name (i := 5) sc_Format____init__.nd rfl (by first | exact .inl rfl | exact .inr rfl)) (dgs_cons (dg_name (i := 6) sc_Format____init__.nd rfl (by first | exact .inl rfl | exact .inr rfl)) (dgs_cons (dg_name (i := 7) sc_Format____init__.nd rfl (by first | exact .inl rfl | exact .inr rfl)) dgs_nil))))) (fun _ _ _ _ _ _ => (de_tup (da_cons (dn 5) (da_cons (dn 6) da_nil)))) (fun _ _ _ _ _ _ => (dn 7))))) rfl)))))))))), ?_⟩
  have step : ∀ (Sa Sb : Ds) (C : Prop) (t : DST) (σ : L2.St) (H1 G1 : Hp) (N : Ends), Rep (Wd.of kk0 G H hg0) K G1 H1 σ Sa → t { nx := fun S' => S' = Sb ∧ C, rt := fun _ _ => False } Sa → (C → ∀ H2 G2 σ2, Same G1 G2 → Rep (Wd.of kk0 G H hg0) K G2 H2 σ2 Sb → N.nx σ2 H2) → liftS (Wd.of kk0 G H hg0) K t N σ H1 := fun Sa Sb C t σ H1 G1 N R ht hn =>
    ⟨G1, Sa, _, R, ht, ⟨fun S' σ2 H2 G2 s2 e R2 => by obtain ⟨e, c⟩ := e; subst e; exact hn c H2 G2 σ2 s2 R2, fun _ _ _ _ _ _ _ z => z.elim, fun _ _ _ _ _ z => z.elim, fun _ _ _ _ _ z => z.elim⟩⟩
  refine step _ ⟨[some (.v (.at (.ref x))), some (.v d1), some (.v d2), some (.v d3), none, none, none, none, none], 0⟩ (∃ m, d1 = .int m ∧ 1 ≤ m ∧ m ≤ 999) _ _ _ _ _ R0 ?_ fun ⟨m, e1, h1, h1'⟩ H1 G1 σ1 s1 R1 => ?_
  · conv => whnf
    refine ⟨_, rfl, any_plain a1, ?_⟩
    cases d1 with
    | int i =>
      have bad : ¬ (1 ≤ i ∧ i ≤ 999) → dueF (.int i) d2 d3 = [.str "size"] := fun h => if_neg h
      conv => whnf
      refine onT_of (b := decide (i < 1)) (fun h => ?_) (fun h => ?_)
      · exact ⟨rfl, hX _ (bad (by have := of_decide_eq_true h; omega))⟩
      · have h := of_decide_eq_false h
        conv => whnf
        refine onT_of (b := decide (999 < i)) (fun h2 => ?_) (fun h2 => ?_)
        · exact ⟨rfl, hX _ (bad (by have := of_decide_eq_true h2; omega))⟩
        · have h2 := of_decide_eq_false h2
          exact ⟨rfl, i, rfl, by omega, by omega⟩
    | _ => exact ⟨rfl, hX _ rfl⟩
  subst e1
  have ed1 : dueF (.int m) d2 d3 = (match wrongV m d2 with
    | d :: _ => [d]
    | [] => if isEnds m d3 then [] else [.str "ends"]) := if_pos ⟨h1, h1'⟩
  refine step _ ⟨[some (.v (.at (.ref x))), some (.v (.int m)), some (.v d2), some (.v d3), some (.v (.tup (wrongV m d2))), none, none, none, none], 0⟩ True _ _ _ _ _ R1 ?_ fun _ H2 G2 σ2 s2 R2 => ?_
  · conv => whnf
    refine ⟨_, _, rfl, m, rfl, h1', a2, ?_⟩
    exact ⟨rfl, trivial⟩
  refine step _ ⟨[some (.v (.at (.ref x))), some (.v (.int m)), some (.v d2), some (.v d3), some (.v (.tup (wrongV m d2))), none, none, none, none], 0⟩ (wrongV m d2 = []) _ _ _ _ _ R2 ?_ fun h3 H3 G3 σ3 s3 R3 => ?_
  · cases hw : wrongV m d2 with
    | nil =>
      ((repeat ((conv => whnf); first | refine ⟨(fun z e => by cases e), ?_⟩ | refine ⟨_, _, _, rfl, rfl, ?_⟩ | refine ⟨_, _, _, _, rfl, rfl, rfl, ?_⟩ | refine ⟨rfl, ?_⟩ | refine ⟨Nat.le_of_ble_eq_true rfl, ?_⟩ | refine ⟨by decide, ?_⟩)); (conv => whnf))
    | cons d r =>
      rw [hw] at ed1
      have := hX _ ed1
      ((repeat ((conv => whnf); first | refine ⟨(fun z e => by cases e), ?_⟩ | refine ⟨_, _, _, rfl, rfl, ?_⟩ | refine ⟨_, _, _, _, rfl, rfl, rfl, ?_⟩ | refine ⟨rfl, ?_⟩ | refine ⟨Nat.le_of_ble_eq_true rfl, ?_⟩ | refine ⟨by decide, ?_⟩)); (conv => whnf))
      rw [show ixD (.tup (d :: r)) (.int 0) = some d from atI_nat (j := 0) rfl]
      exact ⟨rfl, this⟩
  rw [h3] at ed1
  refine step _ ⟨[some (.v (.at (.ref x))), some (.v (.int m)), some (.v d2), some (.v d3), some (.v (.tup (wrongV m d2))), none, none, none, none], 0⟩ (isEnds m d3 = true) _ _ _ _ _ R3 ?_ fun h4 H4 G4 σ4 s4 R4 => ?_
  · conv => whnf
    refine ⟨_, _, rfl, m, rfl, a3, ?_⟩
    refine onT_of (b := !isEnds m d3) (fun h => ?_) (fun h => ?_)
    · have e : dueF (.int m) d2 d3 = [.str "ends"] := by rw [ed1]; exact if_neg (by simpa using h)
      exact ⟨rfl, hX _ e⟩
    · exact ⟨rfl, by simpa using h⟩
  have ed1 : dueF (.int m) d2 d3 = [] := by rw [ed1]; exact if_pos h4
  obtain ⟨go, rfl, hgo, hgl⟩ : ∃ go : List K01.R3, d2 = .tup (List.map mD go) ∧ (∀ p ∈ go, VM m p) ∧ go.length ≤ 1000 := by
    cases d2 with
    | tup ds =>
      cases b1 : ds.find? fun d => !isMove m d with
      | some d =>
        have : wrongV m (.tup ds) = [d] := by
          show (match ds.find? (fun d => !isMove m d) with
            | some d => [d]
            | none => if ascB (ds.map m3Of) then ((twin (ds.map m3Of)).map mD).toList else [.str "order"]) = _
          rw [b1]
        rw [this] at h3; cases h3
      | none =>
        obtain ⟨ps, rfl, v, _⟩ := moves_of (find_none.mp b1)
        exact ⟨ps, rfl, v, by have := hlen _ rfl; rw [List.length_map] at this; exact this⟩
    | _ => cases h3
  have elets : lets (.tup (List.map mD go)) = go.map (·.2) := by
    show ((List.map mD go).map m3Of).map (·.2) = _
    rw [m3_all]
  rw [h3] at R4
  have hσ : σ4[0]? = some (some (.ref x)) := by
    obtain ⟨v, ev, dv⟩ := R4.sl 0 (.v (.at (.ref x))) rfl
    cases (show Dv K G4 v (.at (.ref x)) from dv)
    exact ev
  have R5 := R4.off (Off.refl' [0] σ4)
  rw [eW] at R5
  have hG4 : Same G G4 := ((s1.trans s2).trans s3).trans s4
  generalize hS : (⟨[none, some (.v (.int m)), some (.v (.tup (List.map mD go))), some (.v d3), some (.v (.tup [])), none, none, none, none], 0⟩ : Ds) = S1
  have R5 : Rep (W2.plus x (.ins T.c_Format dx []) nx) K G4 H4 σ4 S1 := by rw [← hS]; exact R5
  refine st_fld (P := fun d S' => d = .int m ∧ S' = S1) fx bx T.insFormat.cl T.no_Format_size (by decide) hσ R5 (by subst hS; exact ⟨rfl, rfl⟩) ?_
  rintro d S3 w1 H5 G5 ⟨rfl, rfl⟩ s5 dw1 R6
  refine st_fld (P := fun d S' => d = .tup (List.map mD go) ∧ S' = S3) fx bx T.insFormat.cl T.no_Format_moves (by show 1 < 1000; decide) hσ R6 (by subst hS; exact ⟨rfl, rfl⟩) ?_
  rintro d S4 w2 H6 G6 ⟨rfl, rfl⟩ s6 dw2 R7
  refine st_fld (P := fun d S' => d = d3 ∧ S' = S4) fx bx T.insFormat.cl T.no_Format_ends (by show 2 < 1000; decide) hσ R7 (by subst hS; exact ⟨rfl, rfl⟩) ?_
  rintro d S6 w4 H8 G8 ⟨e, rfl⟩ s8 dw4 R9
  obtain rfl := e.symm
  refine st_fld (P := fun d S' => (∃ ys : List Str, d = .str (Txt.join "" ys) ∧ sortedS ys = true ∧ ys.Nodup ∧ ∀ z, z ∈ ys ↔ z ∈ go.map (·.2)) ∧ S' = S6) fx bx T.insFormat.cl T.no_Format_letters (by show 3 < 1000; decide) hσ R9 ?_ ?_
  · subst hS
    conv => whnf
    refine scL_J (fun (ds' : List D) (acc : List Str) (S : Ds) => ∃ rs : List K01.R3, ds' = List.map mD rs ∧ (acc ++ rs.map (·.2)) = go.map (·.2) ∧ S = ⟨[none, some (.v (.int m)), some (.v (.tup (List.map mD go))), some (.v d3), some (.v (.tup [])), none, none, none, none], 0⟩) _ _ _ ?_ ?_ ⟨go, rfl, rfl, rfl⟩
    · rintro d ds' acc S - ⟨rs, e, ha, rfl⟩ N hN
      cases rs with
      | nil => cases e
      | cons p rs =>
        injection e with e1 e2
        subst e1 e2
        have hl := congrArg List.length ha
        rw [List.length_append, List.length_map, List.length_map, List.length_cons] at hl
        conv => whnf
        refine ⟨rfl, ?_⟩
        conv => whnf
        refine ⟨p.2, rfl, by unfold scanBound; omega, ?_⟩
        exact hN _ _ ⟨rs, rfl, by rw [List.append_assoc]; exact ha, rfl⟩
    · rintro acc S ⟨rs, e, ha, rfl⟩ ys so nd my
      cases rs with
      | cons _ _ => cases e
      | nil =>
        rw [List.map_nil, List.append_nil] at ha
        subst ha
        have h1 : ∀ z ∈ ys, z.length = 1 := fun z hz => by
          obtain ⟨p, hp, rfl⟩ := List.mem_map.mp ((my z).mp hz)
          obtain ⟨c, ec, _⟩ := (hgo p hp).b
          rw [ec]; rfl
        have h2 : ys.length ≤ go.length := by
          have := sub_len nd fun z hz => (my z).mp hz
          rw [List.length_map] at this
          exact this
        refine ⟨ys, txts_map ys, ?_, ⟨ys, rfl, so, nd, my⟩, rfl⟩
        rw [ones_sum h1]
        show _ + _ * 0 ≤ _
        omega
  rintro d S7 w5 H9 G9 ⟨⟨ys, rfl, so, nd, my⟩, rfl⟩ s9 dw5 R10
  refine st_fld (P := fun d S' => S' = S7) fx bx T.insFormat.cl T.no_Format_steps (by show 4 < 1000; decide) hσ R10 ?_ ?_
  · subst hS
    conv => whnf
    refine dcL_J (fun (ds' : List D) acc (S : Ds) => ∃ rs : List K01.R3, ds' = List.map mD rs ∧ acc.length + rs.length ≤ 1000 ∧ S = ⟨[none, some (.v (.int m)), some (.v (.tup (List.map mD go))), some (.v d3), some (.v (.tup [])), none, none, none, none], 0⟩) _ _ _ ?_ ?_ ⟨go, rfl, by show 0 + _ ≤ _; omega, rfl⟩
    · rintro d' ds' acc S ⟨rs, e, ha, rfl⟩ N hN
      cases rs with
      | nil => cases e
      | cons p rs =>
        injection e with e1 e2
        subst e1 e2
        rw [List.length_cons] at ha
        conv => whnf
        refine ⟨rfl, ?_⟩
        conv => whnf
        refine ⟨by show 2 ≤ sizeLine; omega, ?_⟩
        conv => whnf
        refine ⟨_, [.inl p.1, .inr p.2], rfl, rfl, by omega, ?_⟩
        exact hN _ _ ⟨rs, rfl, by have := put_len (acc := acc) (k := [.inl p.1, .inr p.2]) (y := .int p.3); omega, rfl⟩
    · rintro acc S ⟨rs, e, ha, rfl⟩
      cases rs with
      | cons _ _ => cases e
      | nil => rfl
  rintro d S8 w6 H10 G10 rfl s10 dw6 R11
  have e9 := s10
  have e8 := s9.trans e9
  have e6 := s8.trans e8
  have e5 := s6.trans e6
  refine hok _ (hP ed1 ys so nd (by rw [elets]; exact my) d) _ G10 (hG4.trans (s5.trans e5)) R11.gh (fun a o e => ?_) (fun a o ne e => ?_) ?_ ⟨_, upd_same, rfl, .cons (Dv.up e5 _ _ dw1) (.cons (Dv.up e6 _ _ dw2) (.cons (Dv.up e8 _ _ dw4) (.cons (Dv.up e9 _ _ dw5) (.cons dw6 .nil))))⟩
  · rcases R11.nw a o e with e | ⟨e, _⟩
    · left; rw [← eB]; exact e
    · right
      have e : upd W2.F x _ a = none := e
      by_cases h : a = x
      · rw [h, upd_same] at e; cases e
      · rw [upd_ne h, eF] at e
        exact (if_neg h).symm.trans e
  · refine R11.fr a o ?_
    show upd W2.F x _ a = some o
    rw [upd_ne ne, eF]
    exact (if_neg ne).trans e
  · cases q : G10 x with
    | none => rfl
    | some u =>
      rcases R11.nw x u q with e | ⟨e, _⟩
      · have e : W2.B x = some u := e
        rw [bx] at e; cases e
      · have e : upd W2.F x _ x = none := e
        rw [upd_same] at e; cases e
end
end K01
namespace K01
open PySem PySem.Spec PyProof.Rows L2 L2H Sw Dl Ss
section
variable {P : Program} {w : World} {K : PySem.W.Frag} {mg : Str → Option Value} {base : Heap}
theorem hu_of {k : Nat} {A : Around} (r : Room k A) : A.units + 1 < cLine := by have := r.units; omega
/-! ### the deck -/
def dk (l : Addr) (br dr : Int) : List (Key × V) := [(.inr "cells", .ref l), (.inr "mixed", .int br), (.inr "draws", .int dr)]
theorem k12 : ¬ (Sum.inr ("cells" : Str) : Key) = Sum.inr ("mixed" : Str) := by decide +kernel
theorem k13 : ¬ (Sum.inr ("cells" : Str) : Key) = Sum.inr ("draws" : Str) := by decide +kernel
theorem k23 : ¬ (Sum.inr ("mixed" : Str) : Key) = Sum.inr ("draws" : Str) := by decide +kernel
theorem dk_cells (l : Addr) (br dr : Int) : valV (dk l br dr) (.inr "cells") = some (.ref l) := valV_pos rfl
theorem dk_brew (l : Addr) (br dr : Int) : valV (dk l br dr) (.inr "mixed") = some (.int br) := by
  unfold dk; rw [valV_neg k12, valV_pos rfl]
theorem dk_draws (l : Addr) (br dr : Int) : valV (dk l br dr) (.inr "draws") = some (.int dr) := by
  unfold dk; rw [valV_neg k13, valV_neg k23, valV_pos rfl]
theorem dk_put (l : Addr) (br dr e : Int) : putK (dk l br dr) (.inr "draws") (.int e) = dk l br e := by
  have a1 : ¬ ("cells" : Str) = "draws" := by decide +kernel
  have a2 : ¬ ("mixed" : Str) = "draws" := by decide +kernel
  unfold dk putK
  simp [a1, a2]
structure DeckAt (H : Hp) (d l : Addr) (ns : List Int) (br dr : Int) : Prop where
  at_ : H d = some (.dK (dk l br dr))
  cells : H l = some (.lst (ns.map V.int))
  few : ns.length ≤ 63
  lo : 0 ≤ dr
theorem DeckAt.ne {H : Hp} {d l : Addr} {ns : List Int} {br dr : Int} (D : DeckAt H d l ns br dr) : l ≠ d := ne_of D.cells D.at_ (by intro z; cases z)
theorem DeckAt.gC {H : Hp} {d l : Addr} {ns : List Int} {br dr : Int} (D : DeckAt H d l ns br dr) : DGet H d (.str "cells") (some (.ref l)) := by
  have z := DGet.k (k := .inr ("cells" : Str)) D.at_
  rw [dk_cells] at z
  exact z
theorem DeckAt.gB {H : Hp} {d l : Addr} {ns : List Int} {br dr : Int} (D : DeckAt H d l ns br dr) : DGet H d (.str "mixed") (some (.int br)) := by
  have z := DGet.k (k := .inr ("mixed" : Str)) D.at_
  rw [dk_brew] at z
  exact z
theorem DeckAt.gD {H : Hp} {d l : Addr} {ns : List Int} {br dr : Int} (D : DeckAt H d l ns br dr) : DGet H d (.str "draws") (some (.int dr)) := by
  have z := DGet.k (k := .inr ("draws" : Str)) D.at_
  rw [dk_draws] at z
  exact z
theorem DeckAt.put {H : Hp} {d l : Addr} {ns : List Int} {br dr : Int} (D : DeckAt H d l ns br dr) (e : Int) : DPut H d (.str "draws") (.int e) (upd H d (.dK (dk l br e))) := by
  have z := DPut.k (k := .inr ("draws" : Str)) (v := .int e) D.at_ (by show 3 < sizeLine; decide)
  rw [dk_put] at z
  exact z
theorem DeckAt.drawn {H : Hp} {d l : Addr} {ns : List Int} {br dr : Int} (D : DeckAt H d l ns br dr) {e : Int} (he : 0 ≤ e) : DeckAt (upd H d (.dK (dk l br e))) d l ns br e :=
  ⟨upd_same, by rw [upd_ne D.ne]; exact D.cells, D.few, he⟩
theorem DeckAt.beside {H : Hp} {d l p : Addr} {ns : List Int} {br dr : Int} {o : HO} (D : DeckAt H d l ns br dr) (hp : H p = none) : DeckAt (upd H p o) d l ns br dr :=
  ⟨by rw [upd_ne (ne_of_none D.at_ hp)]; exact D.at_, by rw [upd_ne (ne_of_none D.cells hp)]; exact D.cells, D.few, D.lo⟩
theorem DeckAt.cellsTo {H : Hp} {d l : Addr} {ns ms : List Int} {br dr : Int} (D : DeckAt H d l ns br dr) (h : ms.length ≤ 63) : DeckAt (upd H l (.lst (ms.map V.int))) d l ms br dr :=
  ⟨by rw [upd_ne D.ne.symm]; exact D.at_, upd_same, h, D.lo⟩
def spDraw : Sp := fun vs H Q _ => ∃ (d l : Addr) (ns : List Int) (br dr m : Int), vs = [.ref d, .int m] ∧ DeckAt H d l ns br dr ∧ dr < 1000000 ∧ 1 ≤ m ∧ m ≤ 1000000 ∧
  ∀ (j : Int) (ns' : List Int) (H' : Hp), 0 ≤ j → j < m → DeckAt H' d l ns' br (dr + 1) → (∀ b o, b ≠ d → b ≠ l → H b = some o → H' b = some o) → Q (.int j) H'
theorem ok_ints : ∀ ns : List Int, PyData.canLayAll0 (ns.map PyData.int) = true
  | [] => by simp only [List.map_nil, PyData.canLayAll0]
  | n :: ns => by simp only [List.map_cons, PyData.canLayAll0, PyData.canLay0, ok_ints ns, Bool.and_self]
theorem depth_ints : ∀ xs : List Int, PyData.depthAll (xs.map PyData.int) = 0
  | [] => by simp only [List.map_nil, PyData.depthAll]
  | x :: xs => by simp only [List.map_cons, PyData.depthAll, PyData.depth, depth_ints xs, Nat.max_self]
theorem shaped_ints (ns : List Int) : SeqAt.shaped (.list (ns.map PyData.int)) = true := by
  unfold SeqAt.shaped
  simp only [PyData.canLay0, ok_ints, Bool.true_and, PyData.depth, depth_ints]
  decide
theorem raw_draw {f : Addr} {fd : FuncData} (F : FunD K "_law_draw" "_law_draw" (defArgs (top 47)) (defBody (top 47)) (defScope (top 47)) [] [] f fd) (gI : mg "int" = none) : FnOk P w K mg base CX0 1 f fd ["_law_deck_here", "_law_below"] spDraw := by
  refine F.ok sc__law_draw (fun vs H Q E h => ?_) (fun cdv A outer s H vs Q E hr h => ?_)
  · obtain ⟨d, l, ns, br, dr, m, rfl, _⟩ := h; rfl
  · obtain ⟨d, l, ns, br, dr, m, rfl, D, hdr, hm1, hm2, k⟩ := h
    have hu := hu_of hr
    refine ⟨_, PSs.nox (pss_cons (ps_dput hu (pv 0) pe_str (pe_op op_add (pe_dget hu (pv 0) pe_str (fun _ _ => rfl)) pe_int) rfl)
      (pss_cons (ps_par (i := 2) (j := 3) rfl sc__law_draw.nd rfl rfl (by decide) rfl rfl (pa_cons (pe_dget hu (pv 0) pe_str (fun _ _ => rfl)) (pa_cons (pe_dget hu (pv 0) pe_str (fun _ _ => rfl)) pa_nil)) rfl)
      (pss_cons (ps_if (pt_cmpR (op_neD hr.units) (pe_dget hu (pv 0) pe_str (fun _ _ => rfl)) (pe_lst pa_nil) (nomark _))
        (pss_cons (ps_set (i := 4) sc__law_draw.nd rfl (Or.inl rfl) (pe_bm0 PySem.F.plainAttrs_list PySem.F.slot_list_pop PySem.F.type_list_pop mt_pop (pe_dget hu (pv 0) pe_str (fun _ _ => rfl))))
        (pss_cons (ps_if (pt_cmpR op_ge (pv 4) (pe_op op_pow pe_int pe_int) (nomark _))
          (pss_cons (ps_expr (pe_bm PySem.F.plainAttrs_list PySem.F.slot_list_append PySem.F.type_list_append mt_append (pe_dget hu (pv 0) pe_str (fun _ _ => rfl)) (pa_cons (pe_op op_fdivW (pv 4) (pv 1)) pa_nil)))
          (pss_one (ps_ret (pe_op op_mod (pe_callTy call_int1 (by rfl) gI boot_int (pa_cons (pv 4) pa_nil)) (pv 1)))))
          pss_nil)
        (pss_one (ps_set (i := 3) sc__law_draw.nd rfl (Or.inl rfl) (pe_op op_add (pv 3) (pe_op op_mod (pe_callTy call_int1 (by rfl) gI boot_int (pa_cons (pv 4) pa_nil)) pe_int))))))
        pss_nil)
      (pss_cons (ps_set (i := 3) sc__law_draw.nd rfl (Or.inl rfl) (pe_op op_mod (pe_op op_mul (pe_callTy call_int1 (by rfl) gI boot_int (pa_cons (pe_op op_add (pe_op op_add (pe_op op_mod (pe_callTy call_int1 (by rfl) gI boot_int (pa_cons (pv 3) pa_nil)) pe_int) (pe_op op_mul (pe_op op_mul pe_int (pv 2)) (pv 2))) pe_int) pa_nil)) pe_int) pe_int))
      (pss_cons (ps_set (i := 3) sc__law_draw.nd rfl (Or.inl rfl) (pe_op op_mod (pe_callTy call_int1 (by rfl) gI boot_int (pa_cons (pe_op op_add (pe_op op_add (pe_op op_mul (pv 3) (pv 3)) (pe_op op_mul pe_int (pv 2))) pe_int) pa_nil)) pe_int))
      (pss_one (ps_ret (pe_op op_mod (pe_op op_fdiv (pe_op op_mod (pe_callTy call_int1 (by rfl) gI boot_int (pa_cons (pe_op op_mul (pv 3) pe_int) pa_nil)) pe_int) pe_int) (pv 1))))))))), ?_⟩
    have Dn := D.ne
    have hd0 := D.lo
    have D1 := D.drawn (e := dr + 1) (by omega)
    refine ⟨_, rfl, d, .int dr, rfl, D.gD, _, _, rfl, rfl, _, rfl, d, _, rfl, D.put (dr + 1), ?_⟩
    refine ⟨_, rfl, d, _, rfl, D1.gD, _, rfl, d, _, rfl, D1.gB, _, _, rfl, ?_⟩
    refine ⟨_, rfl, d, _, rfl, D1.gC, by show 0 ≤ sizeLine; omega, fun p hp => ?_⟩
    have D2 := D1.beside (o := .lst []) hp
    have keep1 : ∀ b o, b ≠ d → b ≠ l → H b = some o → upd (upd H d (.dK (dk l br (dr + 1)))) p (.lst []) b = some o := fun b o h1 _ h3 => by
      have z : upd H d (.dK (dk l br (dr + 1))) b = some o := by rw [upd_ne h1]; exact h3
      rw [upd_ne (ne_of_none z hp)]; exact z
    have fin : ∀ (G : Hp) (ns' : List Int) (x : Int), DeckAt G d l ns' br (dr + 1) → (∀ b o, b ≠ d → b ≠ l → H b = some o → G b = some o) → Q (.int (x % m)) G :=
      fun G ns' x DG kp => k _ _ _ (Int.emod_nonneg _ (by omega)) (Int.emod_lt_of_pos _ (by omega)) DG kp
    have b1 : ∀ x : Int, -(2 ^ 64) < x % 2147483647 ∧ x % 2147483647 < 2 ^ 64 := fun x => by omega
    refine ⟨.list (ns.map PyData.int), .list [], .lst (SqL.of D2.cells) (dp_ints _), .lst (SqL.of upd_same) .nil, shaped_ints ns, by decide, _, rfl, ?_⟩
    rw [eqv_nil]
    cases hns : ns with
    | nil =>
      refine iteF ?_
      refine ⟨_, rfl, .inl ⟨_, rfl, _, _, rfl, rfl, (by show (0 : Int) < 2147483629; decide), _, rfl, _, _, rfl, rfl, .inl ⟨by decide, by decide⟩, _, rfl, _, _, rfl, rfl, .inr ⟨by omega, by omega⟩, _, _, rfl, rfl, _, _, rfl, rfl, .inl ⟨_, rfl, _, _, rfl, rfl, .inr ⟨by decide, by decide⟩, _, _, rfl, rfl, (by show (0 : Int) < 2147483647; decide), ?_⟩⟩⟩
      refine ⟨_, rfl, _, rfl, _, _, rfl, rfl, .inl (b1 _), _, rfl, _, _, rfl, rfl, .inl ⟨by decide, by decide⟩, _, _, rfl, rfl, _, _, rfl, rfl, .inl ⟨_, rfl, _, _, rfl, rfl, (by show (0 : Int) < 2147483579; decide), ?_⟩⟩
      refine ⟨_, rfl, _, _, rfl, rfl, .inr ⟨by decide, by decide⟩, .inl ⟨_, rfl, _, _, rfl, rfl, (by show (0 : Int) < 2147483549; decide), _, _, rfl, rfl, ⟨by decide, by decide⟩, _, rfl, _, _, rfl, rfl, (by show 0 < m; omega), ?_⟩⟩
      exact fin _ _ _ (hns ▸ D2) keep1
    | cons n0 ns0 =>
      refine iteT ?_
      have hne : ns ≠ [] := by rw [hns]; simp
      obtain ⟨cl, hcl⟩ : ∃ cl, ns[ns.length - 1]? = some cl := ⟨ns[ns.length - 1]'(by rw [hns]; simp), List.getElem?_eq_getElem _⟩
      have few := D.few
      have hdl : (ns.map V.int).dropLast = ns.dropLast.map V.int := (List.map_dropLast ..).symm
      have D3 := D2.cellsTo (ms := ns.dropLast) (by rw [List.length_dropLast]; omega)
      have keep2 : ∀ (o' : HO), ∀ b o, b ≠ d → b ≠ l → H b = some o → upd (upd (upd H d (.dK (dk l br (dr + 1)))) p (.lst [])) l o' b = some o := fun o' b o h1 h2 h3 => by
        rw [upd_ne h2]; exact keep1 b o h1 h2 h3
      refine ⟨_, rfl, d, _, rfl, D2.gC, .inl ⟨rfl, _, SqL.of D2.cells⟩, l, _, .int cl, rfl, rfl, D2.cells, by rw [List.length_map, List.getElem?_map, hcl]; rfl, ?_⟩
      rw [hdl]
      refine ⟨_, rfl, _, _, rfl, rfl, ⟨by decide, by decide, by decide⟩, _, _, rfl, rfl, _, rfl, ?_⟩
      refine ite2 (fun hbig => ?_) (fun hbig => ?_)
      · refine ⟨_, rfl, d, _, rfl, D3.gC, .inl ⟨rfl, _, SqL.of D3.cells⟩, _, rfl, _, rfl, _, _, rfl, rfl, wide_div (by omega) (b := 20) (by omega) (by decide) (by decide), l, _, _, rfl, rfl, D3.cells, ?_, ?_⟩
        · rw [List.length_map, List.length_dropLast]
          have := line_big
          omega
        · have e1 : (ns.dropLast.map V.int) ++ [V.int (cl / m)] = (ns.dropLast ++ [cl / m]).map V.int := by rw [List.map_append]; rfl
          rw [e1, upd_upd]
          have D4 := D2.cellsTo (ms := ns.dropLast ++ [cl / m]) (by rw [List.length_append, List.length_dropLast]; simp only [List.length_cons, List.length_nil]; omega)
          refine ⟨_, rfl, .inl ⟨_, rfl, _, rfl, _, _, rfl, rfl, (by show 0 < m; omega), ?_⟩⟩
          exact fin _ _ _ D4 (keep2 _)
      · refine ⟨_, rfl, _, rfl, .inl ⟨_, rfl, _, _, rfl, rfl, (by show (0 : Int) < 2147483629; decide), _, _, rfl, rfl, ?_⟩⟩
        refine ⟨_, rfl, .inl ⟨_, rfl, _, _, rfl, rfl, (by show (0 : Int) < 2147483629; decide), _, rfl, _, _, rfl, rfl, .inl ⟨by decide, by decide⟩, _, rfl, _, _, rfl, rfl, .inr ⟨by omega, by omega⟩, _, _, rfl, rfl, _, _, rfl, rfl, .inl ⟨_, rfl, _, _, rfl, rfl, .inr ⟨by decide, by decide⟩, _, _, rfl, rfl, (by show (0 : Int) < 2147483647; decide), ?_⟩⟩⟩
        refine ⟨_, rfl, _, rfl, _, _, rfl, rfl, .inl (b1 _), _, rfl, _, _, rfl, rfl, .inl ⟨by decide, by decide⟩, _, _, rfl, rfl, _, _, rfl, rfl, .inl ⟨_, rfl, _, _, rfl, rfl, (by show (0 : Int) < 2147483579; decide), ?_⟩⟩
        refine ⟨_, rfl, _, _, rfl, rfl, .inr ⟨by decide, by decide⟩, .inl ⟨_, rfl, _, _, rfl, rfl, (by show (0 : Int) < 2147483549; decide), _, _, rfl, rfl, ⟨by decide, by decide⟩, _, rfl, _, _, rfl, rfl, (by show 0 < m; omega), ?_⟩⟩
        exact fin _ _ _ D3 (keep2 _)
/-! ### _law_deck -/
theorem dk_merge (l : Addr) (b e : Int) : mergeK [] (dk l b e) = dk l b e := by
  have a1 : ¬ ("cells" : Str) = "draws" := by decide +kernel
  have a2 : ¬ ("mixed" : Str) = "draws" := by decide +kernel
  have a3 : ¬ ("cells" : Str) = "mixed" := by decide +kernel
  unfold mergeK dk putK
  simp [a1, a2, a3, putK]
theorem cut_63 {xs : List V} (h : xs.length ≤ 63) : cutV xs none (some 63) = xs := by
  unfold cutV
  have e : HT.sIx xs.length xs.length (some 63) = xs.length := by
    have := HT.sIx_nat xs.length xs.length 63
    rw [show ((63 : Nat) : Int) = 63 from rfl] at this
    rw [this]; omega
  rw [e, HT.sIx_none, List.drop_zero, Nat.sub_zero, List.take_of_length_le (Nat.le_refl _)]
def spDeck (K : PySem.W.Frag) : Sp := fun vs H Q _ => ∃ (a : Addr) (ns : List Int), vs = [.ref a] ∧ SqL K H a (ns.map V.int) ∧ ns.length ≤ 63 ∧ ∀ (d l : Addr) (ms : List Int) (br : Int) (H' : Hp), DeckAt H' d l ms br 0 → Same H H' → Q (.ref d) H'
theorem raw_deck {f : Addr} {fd : FuncData} (F : FunD K "_law_deck" "_law_deck" (defArgs (top 46)) (defBody (top 46)) (defScope (top 46)) [] [] f fd) (gI : mg "int" = none) (gL : mg "list" = none) : FnOk P w K mg base CX0 1 f fd ["_law_script"] (spDeck K) := by
  refine F.ok sc__law_deck (fun vs H Q E h => ?_) (fun cdv A outer s H vs Q E hr h => ?_)
  · obtain ⟨a, ns, rfl, _⟩ := h; rfl
  · obtain ⟨a, ns, rfl, hS, hn, k⟩ := h
    have hu := hu_of hr
    refine ⟨_, PSs.nox (pss_cons (ps_par (i := 1) (j := 2) rfl sc__law_deck.nd rfl rfl (by decide) rfl rfl (pa_cons (pe_callTy call_list_of (by rfl) gL boot_list (pa_cons (pe_slice sl_list (pv 0) po_none (po_some pe_int)) pa_nil)) (pa_cons pe_int pa_nil)) rfl)
      (pss_cons (ps_for PassesOwn.never rfl (pi_list (pv 1)) (pg_name (i := 3) sc__law_deck.nd rfl (Or.inl rfl))
        (pss_one (ps_set (i := 2) sc__law_deck.nd rfl (Or.inl rfl) (pe_op op_mod (pe_callTy call_int1 (by rfl) gI boot_int (pa_cons (pe_op op_add (pe_op op_add (pe_op op_mul (pv 2) pe_int) (pe_op op_mod (pe_callTy call_int1 (by rfl) gI boot_int (pa_cons (pv 3) pa_nil)) pe_int)) pe_int) pa_nil)) pe_int))))
      (pss_one (ps_ret (pe_disp (pps_cons pe_str (pe_revL (pv 1)) (pps_cons pe_str (pv 2) (pps_cons pe_str pe_int pps_nil))) rfl rfl (by simp) (by decide)))))), ?_⟩
    refine ⟨_, rfl, _, rfl, a, _, rfl, hS, fun p hp => ?_⟩
    rw [cut_63 (by rw [List.length_map]; exact hn)]
    refine ⟨p, _, rfl, .inl (SqL.of upd_same), fun q hq => ⟨_, _, rfl, ?_⟩⟩
    have s2 : Same H (upd (upd H p (.lst (ns.map V.int))) q (.lst (ns.map V.int))) := fun b o hb => by
      have z : upd H p (.lst (ns.map V.int)) b = some o := by rw [upd_ne (ne_of_none hb hp)]; exact hb
      rw [upd_ne (ne_of_none z hq)]; exact z
    refine ⟨_, rfl, q, rfl, ⟨_, SqL.of upd_same⟩, for_list (K := K) (a := q) (xs := ns.map V.int) (fun i σ G => ∃ (v : Option V) (b : Int), σ = [some (.ref a), some (.ref q), some (.int b), v] ∧ G = upd (upd H p (.lst (ns.map V.int))) q (.lst (ns.map V.int)))
      ⟨none, 1086201, rfl, rfl⟩ (fun i σ G _ ⟨_, _, _, e⟩ => by rw [e]; exact SqL.of upd_same) ?_ ?_⟩
    · rintro i y σ G hi ⟨v, b, rfl, rfl⟩
      obtain ⟨z, rfl⟩ : ∃ z, y = V.int z := by
        rw [List.getElem?_map] at hi
        cases e : ns[i]? with
        | none => rw [e] at hi; cases hi
        | some z => rw [e] at hi; exact ⟨z, (Option.some.inj hi).symm⟩
      exact ⟨_, rfl, _, _, rfl, rfl, .inr ⟨by decide, by decide⟩, _, rfl, .inl ⟨_, rfl, _, _, rfl, rfl, (by show (0 : Int) < 2147483629; decide), _, _, rfl, rfl, _, _, rfl, rfl, .inl ⟨_, rfl, _, _, rfl, rfl, (by show (0 : Int) < 2147483587; decide), _, _, rfl, rfl⟩⟩⟩
    · rintro σ G ⟨v, b, rfl, rfl⟩
      refine fun d hd => ⟨_, rfl, q, _, rfl, SqL.of (by rw [upd_ne (ne_of_none upd_same hd)]; exact upd_same), fun l hl => ⟨_, rfl, ?_⟩⟩
      have hdl : d ≠ l := ne_of_none upd_same hl
      refine ⟨by rw [upd_ne hdl]; exact upd_same, dk l b 0, rfl, by show 3 ≤ 15; omega, ?_⟩
      rw [dk_merge]
      refine k d l ns.reverse b _ ⟨upd_same, by rw [upd_ne hdl.symm, upd_same, List.map_reverse], by rw [List.length_reverse]; exact hn, Int.le_refl _⟩ fun c o hc => ?_
      have z1 := s2 c o hc
      have n1 : c ≠ d := ne_of_none z1 hd
      have z2 : upd (upd (upd H p (.lst (ns.map V.int))) q (.lst (ns.map V.int))) d (.dK []) c = some o := by rw [upd_ne n1]; exact z1
      rw [upd_ne n1, upd_ne (ne_of_none z2 hl)]
      exact z2
end
end K01
namespace K01
open PySem PySem.Spec PyProof.Rows L2 L2H Sw Dl Ss
section
variable {P : Program} {w : World} {K : PySem.W.Frag} {mg : Str → Option Value} {base : Heap} {k : Dek} {dd ll : Addr}
def deckD (d l : Addr) : Dek where
  dk := [d, l]
  deck H n := ∃ ns br, DeckAt H d l ns br n
  st := fun H H' n ⟨ns, br, D⟩ h => ⟨ns, br, by rw [h d (by simp)]; exact D.at_, by rw [h l (by simp)]; exact D.cells, D.few, D.lo⟩
  tr := fun H n ⟨ns, br, D⟩ a ha => by
    rcases List.mem_cons.mp ha with rfl | ha
    · rw [D.at_]; exact fun z => by cases z
    · rw [List.mem_singleton.mp ha, D.cells]; exact fun z => by cases z
def dkD (d : Addr) : D := .at (.ref d)
def spDr (d : Addr) : DSp := fun ds n P => ∃ m, ds = [dkD d, .int m] ∧ n < 1000000 ∧ 1 ≤ m ∧ m ≤ 1000000 ∧ ∀ j, 0 ≤ j → j < m → P (.int j) (n + 1)
theorem ok__law_draw (T : Tx K mg) : FnK P w K mg base 1 T.f__law_draw T.d__law_draw ["_law_deck_here", "_law_below"] (deckD dd ll) (spDr dd) := by
  refine FnOk.imp (raw_draw T.F__law_draw T.b_int) fun vs H Q E ⟨G, ds, n, P, hs, hg, hd, hv, ⟨m, hds, h1, h2, h3, h4⟩, q⟩ => ?_
  subst hds
  obtain ⟨ns, br, D⟩ := hd
  have ev : vs = [.ref dd, .int m] := by
    cases hv with
    | cons a1 a2 =>
      cases a1
      cases a2 with
      | cons b1 b2 => cases b1; cases b2; rfl
  subst ev
  · refine ⟨dd, ll, ns, br, n, m, rfl, D, h1, h2, h3, fun j ns' H' hj1 hj2 D' kp => ?_⟩
    refine q (.int j) (n + 1) (h4 j hj1 hj2) _ H' G (Same.refl _) (fun b o hb => ?_) (fun a o e => .inl e) (fun a o e m => ?_) ⟨ns', br, D'⟩ (.int _)
    · refine kp b o (fun e => ?_) (fun e => ?_) (hs b o hb)
      · rw [e, hg dd (by simp [deckD])] at hb; cases hb
      · rw [e, hg ll (by simp [deckD])] at hb; cases hb
    · exact kp a o (fun z => m (by rw [z]; simp [deckD])) (fun z => m (by rw [z]; simp [deckD])) e
/-! ### pick -/
def spPk (d : Addr) : DSp := fun ds n P => ∃ a x, ds = [a, x] ∧ a = dkD d ∧ ∃ its, items x = some its ∧ 1 ≤ its.length ∧ its.length ≤ 1000 ∧ n < 1000000 ∧ ∀ y ∈ its, P y (n + 1)
theorem ix_items {x : D} {its : List D} {j : Int} (e : items x = some its) (h0 : 0 ≤ j) (h1 : j < (its.length : Nat)) : ∃ y ∈ its, ixD x (.int j) = some y := by
  obtain ⟨i, rfl⟩ : ∃ i : Nat, j = (i : Int) := ⟨j.toNat, by omega⟩
  have hi : i < its.length := by omega
  refine ⟨its[i], List.getElem_mem _, ?_⟩
  cases x with
  | lst ds => cases e; exact atI_nat (List.getElem?_eq_getElem hi)
  | tup ds => cases e; exact atI_nat (List.getElem?_eq_getElem hi)
  | str z =>
    cases e
    show (atI z.cps.toList (i : Int)).map (fun c => D.str (chr c)) = _
    have hz : i < z.cps.toList.length := by simpa using hi
    rw [atI_nat (List.getElem?_eq_getElem hz), Option.map_some, List.getElem_map]
  | _ => cases e
theorem len_items {x : D} {its : List D} (e : items x = some its) (hz : its.length ≤ 1000) {P : D → Prop} (h : P (.int (its.length : Nat))) : dLen [x] P := by
  have lz := line_big
  cases x with
  | lst ds => cases e; exact h
  | tup ds => cases e; exact h
  | str z =>
    cases e
    have el : (z.cps.toList.map fun c => D.str (chr c)).length = z.length := by rw [List.length_map]; rfl
    rw [el] at h hz
    exact ⟨by omega, h⟩
  | _ => cases e
theorem ok__law_pick (T : Tx K mg) : FnK P w K mg base 2 T.f__law_pick T.d__law_pick ["_law_deck_here", "_law_some"] (deckD dd ll) (spPk dd) := by
  refine fnk_of T.F__law_pick sc__law_pick (fun ds n P h => ?_) fun cv A out s H E W ds n Q hr h => ?_
  · obtain ⟨_, _, rfl, _⟩ := h; rfl
  obtain ⟨x0, x1, rfl, h⟩ := h
  refine ⟨_, (dss_one (ds_ret (de_ix (dn 1) (de_callK (ok__law_draw T) (hr.mono (by first | decide | omega)) (by rfl) T.g__law_draw T.F__law_draw.kp (bd__law_draw T) (da_cons (dn 0) (da_cons (de_callB dc_len (by rfl) T.b_len (by decide +kernel) (da_cons (dn 1) da_nil)) da_nil))) (fun _ _ => rfl)))), ?_⟩
  dsimp only [dRet, dBack, dJoin, dRetN, dSeq, dNext, dIfS, dAnd, dOr, dNot, dIf, dBool, dNotT, dAndT, dOrT, dBin, dChain, dCall, dCB, dCons, dNil, dTup, dLst, dVar, dC, dAsg, gN, gsNil, gsCons, gT, dSetO, dFor, dIAny, dIR1, dIR2, dIZip, dIEnum, dIRev, dLc, dYes, dDrop, dPar, dWhile, ownL, putO, dAppend, dExtend, dPop, dIxO, dLenO, dIx, dIsiE, dSl, dNoP, dP, dNeg, getS, setS, startD, wipeD, back, List.map]
  obtain ⟨rfl, its, ei, h1, h2, hn, hp⟩ := h
  refine len_items ei h2 ?_
  refine ⟨_, rfl, hn, by omega, by omega, fun j hj1 hj2 => ?_⟩
  obtain ⟨y, hy, ey⟩ := ix_items ei hj1 hj2
  refine ⟨fun z ez => ?_, ?_⟩
  · subst ez
    cases ei
    have lz := line_big
    have el : (z.cps.toList.map fun c => D.str (chr c)).length = z.length := by rw [List.length_map]; rfl
    rw [el] at h2
    omega
  · rw [ey]
    exact hp y hy
end
end K01
namespace K01
open PySem PySem.Spec PyProof.Rows L2 L2H Sw Dl Ss
/-! ### any value, by depth and size -/
mutual
def dep : D → Nat
  | .lst ds => depS ds + 1
  | .tup ds => depS ds + 1
  | _ => 0
def depS : List D → Nat
  | [] => 0
  | d :: ds => max (dep d) (depS ds)
end
theorem depS_le : ∀ {ds : List D} {n : Nat}, depS ds ≤ n ↔ ∀ d ∈ ds, dep d ≤ n
  | [], n => by simp [depS]
  | d :: ds, n => by
    rw [depS, Nat.max_le, depS_le]; simp
mutual
def siz : D → Nat
  | .str z => z.length + 1
  | .lst ds => sizS ds + 1
  | .tup ds => sizS ds + 1
  | _ => 1
def sizS : List D → Nat
  | [] => 0
  | d :: ds => siz d + sizS ds
end
theorem siz_pos : ∀ d : D, 1 ≤ siz d
  | .str z => Nat.le_add_left _ _
  | .lst ds => Nat.le_add_left _ _
  | .tup ds => Nat.le_add_left _ _
  | .non => Nat.le_refl _
  | .bl _ => Nat.le_refl _
  | .int _ => Nat.le_refl _
  | .dk _ _ => Nat.le_refl _
  | .dt _ _ => Nat.le_refl _
  | .ins _ _ _ => Nat.le_refl _
  | .at _ => Nat.le_refl _
theorem sizS_app : ∀ a b : List D, sizS (a ++ b) = sizS a + sizS b
  | [], b => by rw [List.nil_append, sizS, Nat.zero_add]
  | d :: a, b => by rw [List.cons_append, sizS, sizS, sizS_app a b]; omega
theorem sizS_rev : ∀ a : List D, sizS a.reverse = sizS a
  | [] => rfl
  | d :: a => by rw [List.reverse_cons, sizS_app, sizS_rev a, sizS, sizS, sizS]; omega
theorem len_sizS : ∀ a : List D, a.length ≤ sizS a
  | [] => Nat.le_refl _
  | d :: a => by have := siz_pos d; have := len_sizS a; rw [List.length_cons, sizS]; omega
theorem sizS_mem : ∀ {a : List D} {d : D}, d ∈ a → siz d ≤ sizS a
  | e :: a, d, h => by
    rw [sizS]
    rcases List.mem_cons.mp h with h | h
    · rw [h]; omega
    · have := sizS_mem h; omega
mutual
def anyV (c : Nat) : D → Bool
  | .non => true
  | .bl _ => true
  | .int i => decide (i.natAbs ≤ c * 10 ^ 40)
  | .str z => asc z
  | .lst ds => anyVs c ds
  | .tup ds => anyVs c ds
  | .dk ks ds => ks.isEmpty && ds.isEmpty
  | .dt _ _ => false
  | .ins _ _ _ => false
  | .at _ => false
def anyVs (c : Nat) : List D → Bool
  | [] => true
  | d :: ds => anyV c d && anyVs c ds
end
theorem anyVs_all {m : Nat} : ∀ ds : List D, anyVs m ds = true ↔ ∀ d ∈ ds, anyV m d = true
  | [] => by simp [anyVs]
  | d :: ds => by rw [anyVs, Bool.and_eq_true, anyVs_all ds]; simp
mutual
theorem anyV_up {m n : Nat} (h : m ≤ n) : ∀ d : D, anyV m d = true → anyV n d = true
  | .non, _ => rfl
  | .bl _, _ => rfl
  | .int i, e => decide_eq_true (Nat.le_trans (of_decide_eq_true e) (Nat.mul_le_mul_right _ h))
  | .str z, e => e
  | .lst ds, e => anyVs_up h ds e
  | .tup ds, e => anyVs_up h ds e
  | .dk ks ds, e => e
  | .dt _ _, e => by cases e
  | .ins _ _ _, e => by cases e
  | .at _, e => by cases e
theorem anyVs_up {m n : Nat} (h : m ≤ n) : ∀ ds : List D, anyVs m ds = true → anyVs n ds = true
  | [], _ => rfl
  | d :: ds, e => by
    obtain ⟨h1, h2⟩ := Bool.and_eq_true_iff.mp (show (anyV m d && anyVs m ds) = true from e)
    exact Bool.and_eq_true_iff.mpr ⟨anyV_up h d h1, anyVs_up h ds h2⟩
end
mutual
/-- no tuple or list within is longer than k -/
def wdt (k : Nat) : D → Bool
  | .lst ds => decide (ds.length ≤ k) && wdts k ds
  | .tup ds => decide (ds.length ≤ k) && wdts k ds
  | _ => true
def wdts (k : Nat) : List D → Bool
  | [] => true
  | d :: ds => wdt k d && wdts k ds
end
theorem wdts_all {k : Nat} : ∀ ds : List D, wdts k ds = true ↔ ∀ d ∈ ds, wdt k d = true
  | [] => by simp [wdts]
  | d :: ds => by rw [wdts, Bool.and_eq_true, wdts_all ds]; simp
theorem wdt_tup {k : Nat} {ds : List D} : wdt k (.tup ds) = true ↔ ds.length ≤ k ∧ ∀ d ∈ ds, wdt k d = true := by
  show (decide (ds.length ≤ k) && wdts k ds) = true ↔ _
  rw [Bool.and_eq_true, decide_eq_true_eq, wdts_all]
theorem wdt_lst {k : Nat} {ds : List D} : wdt k (.lst ds) = true ↔ ds.length ≤ k ∧ ∀ d ∈ ds, wdt k d = true := wdt_tup
mutual
theorem wdt_up {k j : Nat} (h : k ≤ j) : ∀ d : D, wdt k d = true → wdt j d = true
  | .lst ds, e => by
    obtain ⟨h1, h2⟩ := Bool.and_eq_true_iff.mp (show (decide (ds.length ≤ k) && wdts k ds) = true from e)
    exact Bool.and_eq_true_iff.mpr ⟨decide_eq_true (Nat.le_trans (of_decide_eq_true h1) h), wdts_up h ds h2⟩
  | .tup ds, e => by
    obtain ⟨h1, h2⟩ := Bool.and_eq_true_iff.mp (show (decide (ds.length ≤ k) && wdts k ds) = true from e)
    exact Bool.and_eq_true_iff.mpr ⟨decide_eq_true (Nat.le_trans (of_decide_eq_true h1) h), wdts_up h ds h2⟩
  | .non, _ => rfl
  | .bl _, _ => rfl
  | .int _, _ => rfl
  | .str _, _ => rfl
  | .dk _ _, _ => rfl
  | .dt _ _, _ => rfl
  | .ins _ _ _, _ => rfl
  | .at _, _ => rfl
theorem wdts_up {k j : Nat} (h : k ≤ j) : ∀ ds : List D, wdts k ds = true → wdts j ds = true
  | [], _ => rfl
  | d :: ds, e => by
    obtain ⟨h1, h2⟩ := Bool.and_eq_true_iff.mp (show (wdt k d && wdts k ds) = true from e)
    exact Bool.and_eq_true_iff.mpr ⟨wdt_up h d h1, wdts_up h ds h2⟩
end
theorem anyV_plain {m : Nat} {d : D} (h : anyV m d = true) : plain d = true := by
  cases d with
  | ins _ _ _ => exact h
  | «at» _ => exact h
  | _ => rfl
/-- a value of depth up to n, size up to m, whole numbers up to c -/
structure Bv (n m c : Nat) (d : D) : Prop where
  a : anyV c d = true
  dp : dep d ≤ n
  s : siz d ≤ m
theorem Bv.up {n m c n' m' c' : Nat} {d : D} (b : Bv n m c d) (h : n ≤ n') (h' : m ≤ m') (h2 : c ≤ c') : Bv n' m' c' d := ⟨anyV_up h2 _ b.a, Nat.le_trans b.dp h, Nat.le_trans b.s h'⟩
theorem bv_tup {n m c : Nat} {ds : List D} (h1 : sizS ds + 1 ≤ m) (h2 : ∀ d ∈ ds, anyV c d = true ∧ dep d ≤ n) : Bv (n + 1) m c (.tup ds) := ⟨(anyVs_all ds).mpr fun d hd => (h2 d hd).1, Nat.succ_le_succ (depS_le.mpr fun d hd => (h2 d hd).2), h1⟩
theorem bv_lst {n m c : Nat} {ds : List D} (h1 : sizS ds + 1 ≤ m) (h2 : ∀ d ∈ ds, anyV c d = true ∧ dep d ≤ n) : Bv (n + 1) m c (.lst ds) := ⟨(anyVs_all ds).mpr fun d hd => (h2 d hd).1, Nat.succ_le_succ (depS_le.mpr fun d hd => (h2 d hd).2), h1⟩
theorem cut_take {α : Type} (xs : List α) (i : Nat) : Dl.cutD xs none (some (i : Int)) = xs.take i := by
  unfold Dl.cutD
  rw [HT.sIx_none, HT.sIx_nat, List.drop_zero, Nat.sub_zero]
  by_cases h : i ≤ xs.length
  · rw [Nat.min_eq_left h]
  · rw [Nat.min_eq_right (by omega), List.take_of_length_le (Nat.le_refl _), List.take_of_length_le (by omega)]
theorem cut_drop {α : Type} (xs : List α) (i : Nat) : Dl.cutD xs (some (i : Int)) none = xs.drop i := by
  unfold Dl.cutD
  rw [HT.sIx_none, HT.sIx_nat]
  by_cases h : i ≤ xs.length
  · rw [Nat.min_eq_left h, List.take_of_length_le (by rw [List.length_drop]; exact Nat.le_refl _)]
  · rw [Nat.min_eq_right (by omega), List.drop_of_length_le (Nat.le_refl _), List.drop_of_length_le (by omega), List.take_nil]
theorem sizS_cut (l : List D) (i : Nat) : sizS (l.take i) + sizS (l.drop i) = sizS l := by rw [← sizS_app, List.take_append_drop]
theorem sizS_at {l : List D} {i : Nat} (h : i < l.length) : sizS (l.take i) + siz l[i] + sizS (l.drop (i + 1)) = sizS l := by
  have e := sizS_cut l i
  rw [List.drop_eq_getElem_cons h, sizS] at e
  omega
theorem cutS_lo {z : Str} {a : Int} (h0 : 0 ≤ a) : (cutS z none (some a)).length ≤ a.toNat := by
  obtain ⟨i, rfl⟩ : ∃ i : Nat, a = (i : Int) := ⟨a.toNat, by omega⟩
  show (((z.cps.toList.drop (HT.sIx z.length 0 none)).take (HT.sIx z.length z.length (some (i : Int)) - HT.sIx z.length 0 none)).toArray).size ≤ _
  rw [HT.sIx_none, HT.sIx_nat, List.size_toArray, List.length_take]; omega
theorem cutS_hi {z : Str} {a : Int} (h0 : 0 ≤ a) : (cutS z (some a) none).length ≤ z.length - a.toNat := by
  obtain ⟨i, rfl⟩ : ∃ i : Nat, a = (i : Int) := ⟨a.toNat, by omega⟩
  show (((z.cps.toList.drop (HT.sIx z.length 0 (some (i : Int)))).take (HT.sIx z.length z.length none - HT.sIx z.length 0 (some (i : Int)))).toArray).size ≤ _
  rw [HT.sIx_none, HT.sIx_nat, List.size_toArray, List.length_take, List.length_drop, Array.length_toList]
  show min _ (z.length - _) ≤ _
  omega
theorem cutS_asc {z : Str} {lo hi : Option Int} (h : asc z = true) : asc (cutS z lo hi) = true := by
  refine List.all_eq_true.mpr fun c hc => ?_
  have hc : c ∈ (z.cps.toList.drop (HT.sIx z.length 0 lo)).take (HT.sIx z.length z.length hi - HT.sIx z.length 0 lo) := hc
  exact List.all_eq_true.mp h c (List.mem_of_mem_drop (List.mem_of_mem_take hc))
theorem cat_codes (a b : Str) : (a ++ b).cps.toList = a.cps.toList ++ b.cps.toList := by
  show (a.cps ++ b.cps).toList = _
  rw [Array.toList_append]
theorem cat_asc {a b : Str} (h1 : asc a = true) (h2 : asc b = true) : asc (a ++ b) = true := by
  unfold asc at *
  rw [cat_codes, List.all_append, h1, h2]; rfl
theorem cat_len (x y : Str) : (x ++ y).length = x.length + y.length := by
  show (x.cps ++ y.cps).size = _
  rw [Array.size_append]; rfl
def Tri (α : Type) [DecidableEq α] [PySem.W.DatumOrd α] : Prop := ∀ a b : α, PySem.W.DatumOrd.lt a b = false → PySem.W.DatumOrd.lt b a = false → a = b
theorem tri_int : Tri Int := fun a b h1 h2 => by
  have h1 : decide (a < b) = false := h1
  have h2 : decide (b < a) = false := h2
  have := of_decide_eq_false h1
  have := of_decide_eq_false h2
  omega
theorem tri_str : Tri Str := fun a b h1 h2 => by
  have h1 : decide (a.cps.toList < b.cps.toList) = false := h1
  have h2 : decide (b.cps.toList < a.cps.toList) = false := h2
  have e : a.cps.toList = b.cps.toList := List.le_antisymm (of_decide_eq_false h2) (of_decide_eq_false h1)
  obtain ⟨⟨la⟩⟩ := a
  obtain ⟨⟨lb⟩⟩ := b
  have e : la = lb := e
  rw [e]
theorem asc_of {α : Type} [DecidableEq α] [PySem.W.DatumOrd α] (t : Tri α) {bs : List α} (nd : bs.Nodup) (pw : bs.Pairwise fun x y => PySem.W.DatumOrd.lt y x = false) : ascB bs = true := by
  unfold ascB
  refine List.all_eq_true.mpr fun i hi => ?_
  have hi := List.mem_range.mp hi
  unfold ltAt
  rw [List.getElem?_eq_getElem (show i < bs.length by omega), List.getElem?_eq_getElem (show i + 1 < bs.length by omega)]
  show PySem.W.DatumOrd.lt (bs[i]'(by omega)) (bs[i + 1]'(by omega)) = true
  cases e : PySem.W.DatumOrd.lt (bs[i]'(by omega)) (bs[i + 1]'(by omega)) with
  | true => rfl
  | false =>
    have h1 := List.pairwise_iff_getElem.mp pw i (i + 1) (by omega) (by omega) (by omega)
    have h2 := t _ _ e h1
    have h3 := List.pairwise_iff_getElem.mp (show bs.Pairwise (· ≠ ·) from nd) i (i + 1) (by omega) (by omega) (by omega)
    exact absurd h2 h3
/-! ### ascending lists -/
section
variable {α : Type} [DecidableEq α] [PySem.W.DatumOrd α]
abbrev lt' (a b : α) : Bool := PySem.W.DatumOrd.lt a b
def Trn (α : Type) [DecidableEq α] [PySem.W.DatumOrd α] : Prop := ∀ a b c : α, PySem.W.DatumOrd.lt a b = true → PySem.W.DatumOrd.lt b c = true → PySem.W.DatumOrd.lt a c = true
def Irr (α : Type) [DecidableEq α] [PySem.W.DatumOrd α] : Prop := ∀ a : α, PySem.W.DatumOrd.lt a a = false
theorem ascB_cons (a b : α) (r : List α) : ascB (a :: b :: r) = (PySem.W.DatumOrd.lt a b && ascB (b :: r)) := by
  unfold ascB
  show (List.range (r.length + 1)).all _ = _
  rw [List.range_succ_eq_map, List.all_cons, List.all_map]
  rfl
theorem asc_pw (t : Trn α) : ∀ {as : List α}, ascB as = true → as.Pairwise fun x y => PySem.W.DatumOrd.lt x y = true
  | [], _ => .nil
  | [a], _ => List.pairwise_singleton _ _
  | a :: b :: r, h => by
    rw [ascB_cons, Bool.and_eq_true] at h
    have ih := asc_pw t h.2
    refine .cons (fun y hy => ?_) ih
    rcases List.mem_cons.mp hy with rfl | hy
    · exact h.1
    · exact t a b y h.1 ((List.pairwise_cons.mp ih).1 y hy)
theorem sort_eq (t : Trn α) (tr : Tri α) (ir : Irr α) {as bs : List α} (nd : bs.Nodup) (mem : ∀ b, b ∈ bs ↔ b ∈ as) (pw : bs.Pairwise fun x y => PySem.W.DatumOrd.lt y x = false) : decide (as = bs) = ascB as := by
  cases h : ascB as with
  | false =>
    refine decide_eq_false fun e => ?_
    subst e
    rw [asc_of tr nd pw] at h; cases h
  | true =>
    refine decide_eq_true ?_
    have p1 := asc_pw t h
    have as_ : ∀ x y : α, PySem.W.DatumOrd.lt x y = true → PySem.W.DatumOrd.lt y x = false := fun x y h => by
      cases e : PySem.W.DatumOrd.lt y x with
      | false => rfl
      | true => have := t x y x h e; rw [ir] at this; cases this
    have nd2 : as.Nodup := p1.imp fun {x y} h e => by subst e; rw [ir] at h; cases h
    exact List.Perm.eq_of_pairwise (le := fun x y => PySem.W.DatumOrd.lt y x = false) (fun a b _ _ h1 h2 => tr a b h2 h1) (p1.imp fun {x y} h => as_ x y h) pw ((List.perm_ext_iff_of_nodup nd2 nd).mpr fun a => (mem a).symm)
end
theorem trn_int : Trn Int := fun a b c h1 h2 => decide_eq_true (by
  have := of_decide_eq_true (show decide (a < b) = true from h1)
  have := of_decide_eq_true (show decide (b < c) = true from h2)
  omega)
theorem trn_str : Trn Str := fun a b c h1 h2 => decide_eq_true (List.lt_trans (of_decide_eq_true (show decide (a.cps.toList < b.cps.toList) = true from h1)) (of_decide_eq_true (show decide (b.cps.toList < c.cps.toList) = true from h2)))
theorem irr_int : Irr Int := fun a => decide_eq_false (by omega)
theorem irr_str : Irr Str := fun a => decide_eq_false (List.lt_irrefl _)
theorem lex_tr {α : Type} [DecidableEq α] [PySem.W.DatumOrd α] (t : Trn α) (ir : Irr α) {a b c : α} {x y z : Bool} (h : x = true → y = true → z = true)
    (h1 : (if a = b then x else PySem.W.DatumOrd.lt a b) = true) (h2 : (if b = c then y else PySem.W.DatumOrd.lt b c) = true) : (if a = c then z else PySem.W.DatumOrd.lt a c) = true := by
  by_cases e1 : a = b
  · subst e1
    rw [if_pos rfl] at h1
    by_cases e2 : a = c
    · subst e2
      rw [if_pos rfl] at h2 ⊢
      exact h h1 h2
    · rw [if_neg e2] at h2 ⊢; exact h2
  · rw [if_neg e1] at h1
    by_cases e2 : b = c
    · subst e2
      rw [if_neg e1]; exact h1
    · rw [if_neg e2] at h2
      have h3 := t _ _ _ h1 h2
      rw [if_neg (fun e => by rw [e, ir] at h3; cases h3)]
      exact h3
theorem lex_tri {α : Type} [DecidableEq α] [PySem.W.DatumOrd α] (t : Tri α) {a b : α} {x y : Bool} (h1 : (if a = b then x else PySem.W.DatumOrd.lt a b) = false) (h2 : (if b = a then y else PySem.W.DatumOrd.lt b a) = false) : a = b ∧ x = false ∧ y = false := by
  by_cases e : a = b
  · rw [if_pos e] at h1
    rw [if_pos e.symm] at h2
    exact ⟨e, h1, h2⟩
  · rw [if_neg e] at h1
    rw [if_neg fun z => e z.symm] at h2
    exact absurd (t a b h1 h2) e
theorem tri_3 : Tri R3 := fun a b h1 h2 => by
  obtain ⟨a1, a2, a3⟩ := a
  obtain ⟨b1, b2, b3⟩ := b
  obtain ⟨e1, h1, h2⟩ := lex_tri tri_int h1 h2
  obtain ⟨e2, h1, h2⟩ := lex_tri tri_str h1 h2
  have e3 := tri_int _ _ h1 h2
  have e1 : a1 = b1 := e1
  have e2 : a2 = b2 := e2
  have e3 : a3 = b3 := e3
  rw [e1, e2, e3]
theorem trn_3 : Trn R3 := fun a b c h1 h2 => lex_tr trn_int irr_int (fun h1 h2 => lex_tr trn_str irr_str (fun h1 h2 => trn_int _ _ _ h1 h2) h1 h2) h1 h2
theorem irr_3 : Irr R3 := fun a => by
  show (if a.1 = a.1 then (if a.2 = a.2 then PySem.W.DatumOrd.lt a.3 a.3 else PySem.W.DatumOrd.lt a.2 a.2) else PySem.W.DatumOrd.lt a.1 a.1) = false
  rw [if_pos rfl, if_pos rfl]; exact irr_int _
structure Vk (x : D) : Prop where
  c : ∃ c, anyV c x = true
  s : siz x ≤ 5000
theorem Vk.pl {x : D} (h : Vk x) : plain x = true := anyV_plain h.c.choose_spec
theorem Vk.tup {ds : List D} (h : Vk (.tup ds)) : ds.length ≤ 5000 ∧ ∀ d ∈ ds, Vk d := by
  obtain ⟨⟨c, hc⟩, hs⟩ := h
  have hs : sizS ds + 1 ≤ 5000 := hs
  have := len_sizS ds
  exact ⟨by omega, fun d hd => ⟨⟨c, (anyVs_all ds).mp hc d hd⟩, by have := sizS_mem hd; omega⟩⟩
theorem Vk.str {z : Str} (h : Vk (.str z)) : z.length ≤ 5000 ∧ asc z = true := by
  obtain ⟨⟨c, hc⟩, hs⟩ := h
  have hs : z.length + 1 ≤ 5000 := hs
  exact ⟨by omega, hc⟩
mutual
theorem any_of {c : Nat} : ∀ d : D, anyV c d = true → siz d ≤ 100000 → anyD d = true
  | .non, _, _ => rfl
  | .bl _, _, _ => rfl
  | .int _, _, _ => rfl
  | .str z, _, h => decide_eq_true (by have h : z.length + 1 ≤ 100000 := h; omega)
  | .lst ds, h, hs => by
    have hs : sizS ds + 1 ≤ 100000 := hs
    have := len_sizS ds
    exact Bool.and_eq_true_iff.mpr ⟨decide_eq_true (by omega), anys_of ds h (by omega)⟩
  | .tup ds, h, hs => by
    have hs : sizS ds + 1 ≤ 100000 := hs
    have := len_sizS ds
    exact Bool.and_eq_true_iff.mpr ⟨decide_eq_true (by omega), anys_of ds h (by omega)⟩
  | .dk _ _, h, _ => h
  | .dt _ _, h, _ => by cases h
  | .ins _ _ _, h, _ => by cases h
  | .at _, h, _ => by cases h
theorem anys_of {c : Nat} : ∀ ds : List D, anyVs c ds = true → sizS ds ≤ 100000 → anyDs ds = true
  | [], _, _ => rfl
  | d :: ds, h, hs => by
    obtain ⟨h1, h2⟩ := Bool.and_eq_true_iff.mp (show (anyV c d && anyVs c ds) = true from h)
    have hs : siz d + sizS ds ≤ 100000 := hs
    exact Bool.and_eq_true_iff.mpr ⟨any_of d h1 (by omega), anys_of ds h2 (by omega)⟩
end
theorem Vk.any {x : D} (h : Vk x) : anyD x = true := any_of x h.c.choose_spec (Nat.le_trans h.s (by decide))
theorem sizS_le {a : Nat} : ∀ {ds : List D}, (∀ d ∈ ds, siz d ≤ a) → sizS ds ≤ a * ds.length
  | [], _ => Nat.zero_le _
  | d :: ds, h => by
    rw [sizS, List.length_cons, Nat.mul_succ]
    have := h d (by simp)
    have := sizS_le fun x hx => h x (List.mem_cons_of_mem _ hx)
    omega
/-! ### what repr takes -/
theorem int_fit {c : Nat} (hc : c ≤ 60) {i : Int} (h : i.natAbs ≤ c * 10 ^ 40) : (PyData.int i).showable = true ∧ (PyData.int i).leavesShort 60 = true := by
  have h1 : i.natAbs < 10 ^ 42 := by
    have : c * 10 ^ 40 ≤ 60 * 10 ^ 40 := Nat.mul_le_mul_right _ hc
    omega
  constructor
  · simp only [PyData.showable]
    exact decide_eq_true (by
      by_cases z : i.natAbs = 0
      · rw [z]; decide
      · have : i.natAbs.log2 < 140 := (Nat.log2_lt z).mpr (by omega)
        omega)
  · simp only [PyData.leavesShort]
    have := int_text_length_le10 (k := 42) (by decide) h1
    refine decide_eq_true ?_
    simp only [PyData.shown]
    rw [PySem.ofString_length]
    omega
mutual
theorem any_fit {c : Nat} (hc : c ≤ 60) : ∀ d : D, anyV c d = true → pureE d = true ∧ (toPyE d).showable = true ∧ (toPyE d).leavesShort 60 = true ∧ (toPyE d).depth ≤ dep d + 1 ∧ (toPyE d).bulk + 1 ≤ siz d
  | .non, _ => ⟨rfl, rfl, rfl, Nat.zero_le _, Nat.le_refl _⟩
  | .bl _, _ => ⟨rfl, rfl, rfl, Nat.zero_le _, Nat.le_refl _⟩
  | .int i, h => ⟨rfl, (int_fit hc (of_decide_eq_true h)).1, (int_fit hc (of_decide_eq_true h)).2, Nat.zero_le _, Nat.le_refl _⟩
  | .str z, h => by
    have h1 := asc_lt (z := z) h
    refine ⟨rfl, rfl, ?_, Nat.zero_le _, Nat.le_refl _⟩
    simp only [toPyE, PyData.leavesShort]
    exact List.all_eq_true.mpr fun c hc => decide_eq_true (Nat.lt_of_lt_of_le (h1 c hc) (by decide))
  | .lst ds, h => by
    obtain ⟨h1, h2, h3, h4, h5⟩ := any_fits hc ds h
    refine ⟨h1, ?_, ?_, ?_, ?_⟩
    · simpa only [toPyE, PyData.showable] using h2
    · simpa only [toPyE, PyData.leavesShort] using h3
    · simp only [toPyE, PyData.depth, dep]; omega
    · simp only [toPyE, PyData.bulk, siz]; omega
  | .tup ds, h => by
    obtain ⟨h1, h2, h3, h4, h5⟩ := any_fits hc ds h
    refine ⟨h1, ?_, ?_, ?_, ?_⟩
    · simpa only [toPyE, PyData.showable] using h2
    · simpa only [toPyE, PyData.leavesShort] using h3
    · simp only [toPyE, PyData.depth, dep]; omega
    · simp only [toPyE, PyData.bulk, siz]; omega
  | .dk ks ds, h => ⟨h, rfl, rfl, by simp [toPyE, PyData.depth, PyData.depthKv], by simp [toPyE, PyData.bulk, PyData.bulkKv, siz]⟩
  | .dt _ _, h => by cases h
  | .ins _ _ _, h => by cases h
  | .at _, h => by cases h
theorem any_fits {c : Nat} (hc : c ≤ 60) : ∀ ds : List D, anyVs c ds = true → pureEs ds = true ∧ PyData.showableAll (toPyEs ds) = true ∧ PyData.leavesShortAll 60 (toPyEs ds) = true ∧ PyData.depthAll (toPyEs ds) ≤ depS ds + 1 ∧ PyData.bulkAll (toPyEs ds) ≤ sizS ds
  | [], _ => ⟨rfl, rfl, rfl, Nat.zero_le _, Nat.le_refl _⟩
  | d :: ds, h => by
    obtain ⟨p1, p2⟩ := Bool.and_eq_true_iff.mp (show (anyV c d && anyVs c ds) = true from h)
    obtain ⟨h1, h2, h3, h4, h5⟩ := any_fit hc d p1
    obtain ⟨k1, k2, k3, k4, k5⟩ := any_fits hc ds p2
    refine ⟨by rw [pureEs, h1, k1]; rfl, ?_, ?_, ?_, ?_⟩
    · simp only [toPyEs, PyData.showableAll, h2, k2, Bool.and_self]
    · simp only [toPyEs, PyData.leavesShortAll, h3, k3, Bool.and_self]
    · simp only [toPyEs, PyData.depthAll, depS]; omega
    · simp only [toPyEs, PyData.bulkAll, sizS]; omega
end
theorem good_any {c : Nat} (hc : c ≤ 60) {d : D} (h : anyV c d = true) (hd : dep d ≤ 40) (hs : siz d ≤ 10000) : GoodE d := by
  obtain ⟨h1, h2, h3, h4, h5⟩ := any_fit hc d h
  have h6 := PyData.shown_le_bulk 60 (by decide) _ h3
  have := line_big
  exact ⟨h1, h2, by omega, by omega⟩
end K01
namespace K01
open PySem PySem.Spec PyProof.Rows L2 L2H Sw Dl Ss
/-! ### texts in order, each once -/
theorem le_str {a b c : Str} (h1 : lt' b a = false) (h2 : lt' c b = false) : lt' c a = false := by
  cases h : lt' c a with
  | false => rfl
  | true =>
    exfalso
    by_cases e : lt' a b = true
    · have := trn_str _ _ _ h e
      cases h2.symm.trans this
    · have e : lt' a b = false := by simpa using e
      have := tri_str a b e h1
      subst this
      cases h2.symm.trans h
theorem rising_pw : ∀ {l : List Str} {p : Str}, risingS p l = true → (p :: l).Pairwise fun x y => lt' y x = false
  | [], p, _ => List.pairwise_singleton _ _
  | x :: r, p, h => by
    obtain ⟨h1, h2⟩ := Bool.and_eq_true_iff.mp (show (!ltCps x.cps.toList p.cps.toList && risingS x r) = true from h)
    have ih := rising_pw h2
    have h3 : lt' x p = false := by
      rw [ltCps_eq, Bool.not_eq_true'] at h1
      exact h1
    refine .cons (fun y hy => ?_) ih
    rcases List.mem_cons.mp hy with rfl | hy
    · exact h3
    · exact le_str h3 ((List.pairwise_cons.mp ih).1 y hy)
theorem sorted_pw : ∀ {l : List Str}, sortedS l = true → l.Pairwise fun x y => lt' y x = false
  | [], _ => .nil
  | x :: r, h => rising_pw h
theorem sorted_one {as bs : List Str} (h1 : sortedS as = true) (h2 : sortedS bs = true) (n1 : as.Nodup) (n2 : bs.Nodup) (m : ∀ z, z ∈ as ↔ z ∈ bs) : as = bs :=
  List.Perm.eq_of_pairwise (le := fun x y => lt' y x = false) (fun a b _ _ h1 h2 => tri_str a b h2 h1) (sorted_pw h1) (sorted_pw h2) ((List.perm_ext_iff_of_nodup n1 n2).mpr m)
/-! ### what is shown of a translator's parts tells them -/
abbrev sh (d : PyData) : List Nat := d.shown.cps.toList
theorem cut_at {k : Nat} : ∀ {a b x y : List Nat}, k ∉ a → k ∉ b → a ++ k :: x = b ++ k :: y → a = b ∧ x = y
  | [], [], _, _, _, _, e => by injection e with _ e; exact ⟨rfl, e⟩
  | [], c :: b, _, _, _, hb, e => by injection e with e _; exact absurd (by rw [e]; simp) hb
  | c :: a, [], _, _, ha, _, e => by injection e with e _; exact absurd (by rw [e]; simp) ha
  | c :: a, d :: b, x, y, ha, hb, e => by
    injection e with e1 e2
    obtain ⟨h1, h2⟩ := cut_at (fun h => ha (List.mem_cons_of_mem _ h)) (fun h => hb (List.mem_cons_of_mem _ h)) e2
    exact ⟨by rw [e1, h1], h2⟩
theorem cut_two {S : Nat → Prop} : ∀ {a b x y : List Nat} {i j : Nat}, (∀ c ∈ a, ¬ S c) → (∀ c ∈ b, ¬ S c) → S i → S j → a ++ i :: x = b ++ j :: y → a = b ∧ i :: x = j :: y
  | [], [], _, _, _, _, _, _, _, _, e => ⟨rfl, e⟩
  | [], c :: b, _, _, i, j, _, hb, hi, _, e => by injection e with e _; exact absurd (e ▸ hi) (hb c (by simp))
  | c :: a, [], _, _, i, j, ha, _, _, hj, e => by injection e with e _; exact absurd (e.symm ▸ hj) (ha c (by simp))
  | c :: a, d :: b, x, y, i, j, ha, hb, hi, hj, e => by
    injection e with e1 e2
    obtain ⟨h1, h2⟩ := cut_two (fun c h => ha c (List.mem_cons_of_mem _ h)) (fun c h => hb c (List.mem_cons_of_mem _ h)) hi hj e2
    exact ⟨by rw [e1, h1], h2⟩
def vd (l : List Nat) : Nat := l.foldl (fun a c => a * 10 + (c - 48)) 0
theorem vd_all : ∀ n : Nat, n < 1000 → vd (sh (.int (n : Int))) = n := by decide +kernel
theorem sh_int_inj {i j : Int} (hi : 0 ≤ i ∧ i < 1000) (hj : 0 ≤ j ∧ j < 1000) (e : sh (.int i) = sh (.int j)) : i = j := by
  obtain ⟨n, rfl⟩ : ∃ n : Nat, i = (n : Int) := ⟨i.toNat, by omega⟩
  obtain ⟨m, rfl⟩ : ∃ m : Nat, j = (m : Int) := ⟨j.toNat, by omega⟩
  have h1 := vd_all n (by omega)
  have h2 := vd_all m (by omega)
  rw [e, h2] at h1
  rw [h1]
theorem int_head : ∀ n : Nat, n < 1000 → ((sh (.int (n : Int))).head?.all fun c => decide (48 ≤ c)) && !(sh (.int (n : Int))).isEmpty = true := by decide +kernel
/-- where a value ends -/
def Stp (c : Nat) : Prop := c = 44 ∨ c = 41
theorem int_noS (i : Int) : ∀ c ∈ sh (.int i), ¬ Stp c := fun c hc h => by
  rcases h with rfl | rfl
  · exact shown_int_free' ⟨by decide, by decide⟩ i hc
  · exact shown_int_free' ⟨by decide, by decide⟩ i hc
theorem az_shown : ∀ c : Nat, c < 123 → 97 ≤ c → PySem.Builtin.Str.reprChar 39 c = [c] := by decide +kernel
theorem fold_az : ∀ (l : List Nat) (acc : Array Nat), l.all az = true → (l.foldl (fun out c => out ++ (PySem.Builtin.Str.reprChar 39 c).toArray) acc).toList = acc.toList ++ l
  | [], acc, _ => by simp
  | c :: l, acc, h => by
    rw [List.all_cons, Bool.and_eq_true] at h
    obtain ⟨h1, h2⟩ := Bool.and_eq_true_iff.mp (show (decide (97 ≤ c) && decide (c ≤ 122)) = true from h.1)
    rw [List.foldl_cons, fold_az l _ h.2, az_shown c (by have := of_decide_eq_true h2; omega) (of_decide_eq_true h1)]
    simp
theorem az_no39 {z : Str} (h : azS z = true) : 39 ∉ z.cps.toList := fun hm => by
  have := List.all_eq_true.mp h 39 hm
  revert this; decide
theorem sh_str {z : Str} (h : azS z = true) : sh (.str z) = 39 :: (z.cps.toList ++ [39]) := by
  show (PyData.str z).shown.cps.toList = _
  rw [PyData.shown_str]
  unfold reprText
  have e39 : z.cps.contains 39 = false := by
    cases e : z.cps.contains 39 with
    | false => rfl
    | true => exact absurd (by simpa using e) (az_no39 h)
  have eq : reprQuote z = 39 := by unfold reprQuote; rw [e39]; rfl
  rw [eq]
  show ((z.cps.foldl (fun out c => out ++ (PySem.Builtin.Str.reprChar 39 c).toArray) #[39]).push 39).toList = _
  rw [Array.toList_push, ← Array.foldl_toList, fold_az _ _ h]
  rfl
mutual
def nice : D → Bool
  | .int i => decide (0 ≤ i) && decide (i < 1000)
  | .str z => azS z
  | .tup ds => nices ds
  | .non => false
  | .bl _ => false
  | .lst _ => false
  | .dk _ _ => false
  | .dt _ _ => false
  | .ins _ _ _ => false
  | .at _ => false
def nices : List D → Bool
  | [] => true
  | d :: ds => nice d && nices ds
end
theorem nices_all : ∀ ds : List D, nices ds = true ↔ ∀ d ∈ ds, nice d = true
  | [] => by simp [nices]
  | d :: ds => by rw [nices, Bool.and_eq_true, nices_all ds]; simp
def SD (d : D) : List Nat := sh (toPyE d)
def J1 : List D → List Nat
  | [] => []
  | [d] => SD d
  | d :: e :: r => SD d ++ 44 :: 32 :: J1 (e :: r)
def tl1 (ds : List D) : List Nat := match ds with
  | [_] => [44, 41]
  | _ => [41]
theorem join_two (a b : Str) (r : List Str) : (Str.join ", " (a :: b :: r)).cps.toList = a.cps.toList ++ 44 :: 32 :: (Str.join ", " (b :: r)).cps.toList := by
  show (a ++ ", " ++ Str.join ", " (b :: r)).cps.toList = _
  rw [cat_codes, cat_codes, List.append_assoc]; rfl
theorem join_J : ∀ ds : List D, (Str.join ", " (PyData.shownAll (toPyEs ds))).cps.toList = J1 ds
  | [] => rfl
  | [d] => rfl
  | d :: e :: r => by
    have ih := join_J (e :: r)
    show (Str.join ", " ((toPyE d).shown :: (toPyE e).shown :: PyData.shownAll (toPyEs r))).cps.toList = _
    rw [join_two]
    show SD d ++ 44 :: 32 :: (Str.join ", " (PyData.shownAll (toPyEs (e :: r)))).cps.toList = _
    rw [ih]; rfl
theorem sh_tup (ds : List D) : SD (.tup ds) = 40 :: (J1 ds ++ tl1 ds) := by
  have e : toPyE (.tup ds) = .tuple (toPyEs ds) := by simp only [toPyE]
  unfold SD sh
  rw [e, PyData.shown_tuple, cat_codes, cat_codes, join_J]
  match ds with
  | [] => rfl
  | [d] => rfl
  | d :: e :: r => rfl
theorem sd_head : ∀ {d : D}, nice d = true → ∃ c t, SD d = c :: t ∧ c ≠ 41
  | .int i, h => by
    obtain ⟨h1, h2⟩ := Bool.and_eq_true_iff.mp (show (decide (0 ≤ i) && decide (i < 1000)) = true from h)
    obtain ⟨n, rfl⟩ : ∃ n : Nat, i = (n : Int) := ⟨i.toNat, by have := of_decide_eq_true h1; omega⟩
    have e := int_head n (by have := of_decide_eq_true h2; omega)
    show ∃ c t, sh (.int (n : Int)) = c :: t ∧ c ≠ 41
    cases q : sh (.int (n : Int)) with
    | nil => rw [q] at e; cases e
    | cons c t =>
      refine ⟨c, t, rfl, ?_⟩
      rw [q] at e
      have e : (decide (48 ≤ c) && true) = true := e
      rw [Bool.and_true] at e
      have := of_decide_eq_true e
      omega
  | .str z, h => ⟨39, _, sh_str h, by decide⟩
  | .tup ds, h => ⟨40, _, sh_tup ds, by decide⟩
theorem sd_kind {d e : D} (hd : nice d = true) (he : nice e = true) {x y : List Nat} (h : SD d ++ x = SD e ++ y) : (∃ i j, d = .int i ∧ e = .int j) ∨ (∃ i j, d = .str i ∧ e = .str j) ∨ ∃ i j, d = .tup i ∧ e = .tup j := by
  have ih : ∀ i : Int, nice (.int i) = true → ∃ c t, SD (.int i) = c :: t ∧ 48 ≤ c := fun i h => by
    obtain ⟨h1, h2⟩ := Bool.and_eq_true_iff.mp (show (decide (0 ≤ i) && decide (i < 1000)) = true from h)
    obtain ⟨n, rfl⟩ : ∃ n : Nat, i = (n : Int) := ⟨i.toNat, by have := of_decide_eq_true h1; omega⟩
    have e := int_head n (by have := of_decide_eq_true h2; omega)
    show ∃ c t, sh (.int (n : Int)) = c :: t ∧ 48 ≤ c
    cases q : sh (.int (n : Int)) with
    | nil => rw [q] at e; cases e
    | cons c t =>
      refine ⟨c, t, rfl, ?_⟩
      rw [q] at e
      have e : (decide (48 ≤ c) && true) = true := e
      rw [Bool.and_true] at e
      exact of_decide_eq_true e
  have is : ∀ z : Str, nice (.str z) = true → SD (.str z) = 39 :: (z.cps.toList ++ [39]) := fun z h => sh_str h
  match d, e, hd, he, h with
  | .int i, .int j, _, _, _ => exact .inl ⟨i, j, rfl, rfl⟩
  | .str i, .str j, _, _, _ => exact .inr (.inl ⟨i, j, rfl, rfl⟩)
  | .tup i, .tup j, _, _, _ => exact .inr (.inr ⟨i, j, rfl, rfl⟩)
  | .int i, .str j, hd, he, h => obtain ⟨c, t, e1, e2⟩ := ih i hd; rw [e1, is j he] at h; injection h with h _; omega
  | .int i, .tup j, hd, he, h => obtain ⟨c, t, e1, e2⟩ := ih i hd; rw [e1, sh_tup] at h; injection h with h _; omega
  | .str i, .int j, hd, he, h => obtain ⟨c, t, e1, e2⟩ := ih j he; rw [e1, is i hd] at h; injection h with h _; omega
  | .str i, .tup j, hd, he, h => rw [is i hd, sh_tup] at h; injection h with h _; omega
  | .tup i, .int j, hd, he, h => obtain ⟨c, t, e1, e2⟩ := ih j he; rw [e1, sh_tup] at h; injection h with h _; omega
  | .tup i, .str j, hd, he, h => rw [is j he, sh_tup] at h; injection h with h _; omega
theorem str_codes {a b : Str} (e : a.cps.toList = b.cps.toList) : a = b := by
  obtain ⟨⟨la⟩⟩ := a
  obtain ⟨⟨lb⟩⟩ := b
  have e : la = lb := e
  rw [e]
mutual
theorem sd_inj : ∀ (d e : D), nice d = true → nice e = true → ∀ (i j : Nat) (x y : List Nat), Stp i → Stp j → SD d ++ i :: x = SD e ++ j :: y → d = e ∧ i :: x = j :: y
  | .int a, e, hd, he, i, j, x, y, hi, hj, h => by
    rcases sd_kind hd he h with ⟨a', b, e1, rfl⟩ | ⟨_, _, e1, _⟩ | ⟨_, _, e1, _⟩
    · obtain ⟨h1, h2⟩ := cut_two (S := Stp) (int_noS a) (int_noS b) hi hj h
      obtain ⟨p1, p2⟩ := Bool.and_eq_true_iff.mp (show (decide (0 ≤ a) && decide (a < 1000)) = true from hd)
      obtain ⟨q1, q2⟩ := Bool.and_eq_true_iff.mp (show (decide (0 ≤ b) && decide (b < 1000)) = true from he)
      exact ⟨by rw [sh_int_inj ⟨of_decide_eq_true p1, of_decide_eq_true p2⟩ ⟨of_decide_eq_true q1, of_decide_eq_true q2⟩ h1], h2⟩
    · cases e1
    · cases e1
  | .str a, e, hd, he, i, j, x, y, hi, hj, h => by
    rcases sd_kind hd he h with ⟨_, _, e1, _⟩ | ⟨_, b, e1, rfl⟩ | ⟨_, _, e1, _⟩
    · cases e1
    · rw [show SD (.str a) = _ from sh_str hd, show SD (.str b) = _ from sh_str he] at h
      have h : 39 :: (a.cps.toList ++ 39 :: i :: x) = 39 :: (b.cps.toList ++ 39 :: j :: y) := by simpa using h
      injection h with _ h
      obtain ⟨h1, h2⟩ := cut_at (az_no39 hd) (az_no39 he) h
      exact ⟨by rw [str_codes h1], h2⟩
    · cases e1
  | .tup ds, e, hd, he, i, j, x, y, hi, hj, h => by
    rcases sd_kind hd he h with ⟨_, _, e1, _⟩ | ⟨_, b, e1, _⟩ | ⟨_, es, e1, rfl⟩
    · cases e1
    · cases e1
    · rw [sh_tup, sh_tup] at h
      have h : 40 :: (J1 ds ++ (tl1 ds ++ i :: x)) = 40 :: (J1 es ++ (tl1 es ++ j :: y)) := by simpa using h
      injection h with _ h
      obtain ⟨h1, h2⟩ := js_inj ds es hd he (i :: x) (j :: y) h
      exact ⟨by rw [h1], h2⟩
  | .non, _, hd, _, _, _, _, _, _, _, _ => by cases hd
  | .bl _, _, hd, _, _, _, _, _, _, _, _ => by cases hd
  | .lst _, _, hd, _, _, _, _, _, _, _, _ => by cases hd
  | .dk _ _, _, hd, _, _, _, _, _, _, _, _ => by cases hd
  | .dt _ _, _, hd, _, _, _, _, _, _, _, _ => by cases hd
  | .ins _ _ _, _, hd, _, _, _, _, _, _, _, _ => by cases hd
  | .at _, _, hd, _, _, _, _, _, _, _, _ => by cases hd
theorem js_inj : ∀ (ds es : List D), nices ds = true → nices es = true → ∀ (x y : List Nat), J1 ds ++ (tl1 ds ++ x) = J1 es ++ (tl1 es ++ y) → ds = es ∧ x = y
  | [], [], _, _, x, y, h => by
    have h : 41 :: x = 41 :: y := h
    injection h with _ h
    exact ⟨rfl, h⟩
  | [], [e], _, he, x, y, h => by
    have he : nice e = true := (nices_all _).mp he e (by simp)
    obtain ⟨c, t, e1, e2⟩ := sd_head he
    have h : 41 :: x = SD e ++ (44 :: 41 :: y) := h
    rw [e1] at h
    injection h with h _
    exact absurd h.symm e2
  | [], e :: f :: r, _, he, x, y, h => by
    have he : nice e = true := (nices_all _).mp he e (by simp)
    obtain ⟨c, t, e1, e2⟩ := sd_head he
    have h : 41 :: x = SD e ++ 44 :: 32 :: J1 (f :: r) ++ ([41] ++ y) := h
    rw [e1] at h
    injection h with h _
    exact absurd h.symm e2
  | [d], [], hd, _, x, y, h => by
    have hd : nice d = true := (nices_all _).mp hd d (by simp)
    obtain ⟨c, t, e1, e2⟩ := sd_head hd
    have h : SD d ++ (44 :: 41 :: x) = 41 :: y := h
    rw [e1] at h
    injection h with h _
    exact absurd h e2
  | d :: e :: r, [], hd, _, x, y, h => by
    have hd : nice d = true := (nices_all _).mp hd d (by simp)
    obtain ⟨c, t, e1, e2⟩ := sd_head hd
    have h : SD d ++ 44 :: 32 :: J1 (e :: r) ++ ([41] ++ x) = 41 :: y := h
    rw [e1] at h
    injection h with h _
    exact absurd h e2
  | [d], [e], hd, he, x, y, h => by
    obtain ⟨hd, _⟩ := Bool.and_eq_true_iff.mp (show (nice d && nices []) = true from hd)
    obtain ⟨he, _⟩ := Bool.and_eq_true_iff.mp (show (nice e && nices []) = true from he)
    obtain ⟨h1, h2⟩ := sd_inj d e hd he 44 44 (41 :: x) (41 :: y) (.inl rfl) (.inl rfl) h
    injection h2 with _ h2
    injection h2 with _ h2
    exact ⟨by rw [h1], h2⟩
  | [d], e :: f :: r, hd, he, x, y, h => by
    obtain ⟨hd, _⟩ := Bool.and_eq_true_iff.mp (show (nice d && nices []) = true from hd)
    obtain ⟨he, _⟩ := Bool.and_eq_true_iff.mp (show (nice e && nices (f :: r)) = true from he)
    have h : SD d ++ 44 :: 41 :: x = SD e ++ 44 :: (32 :: (J1 (f :: r) ++ ([41] ++ y))) := by
      have h : SD d ++ 44 :: 41 :: x = SD e ++ 44 :: 32 :: J1 (f :: r) ++ ([41] ++ y) := h
      simpa using h
    obtain ⟨h1, h2⟩ := sd_inj d e hd he 44 44 _ _ (.inl rfl) (.inl rfl) h
    injection h2 with _ h2
    injection h2 with h2 _
    exact absurd h2 (by decide)
  | d :: f :: r, [e], hd, he, x, y, h => by
    obtain ⟨hd, _⟩ := Bool.and_eq_true_iff.mp (show (nice d && nices (f :: r)) = true from hd)
    obtain ⟨he, _⟩ := Bool.and_eq_true_iff.mp (show (nice e && nices []) = true from he)
    have h : SD d ++ 44 :: (32 :: (J1 (f :: r) ++ ([41] ++ x))) = SD e ++ 44 :: 41 :: y := by
      have h : SD d ++ 44 :: 32 :: J1 (f :: r) ++ ([41] ++ x) = SD e ++ 44 :: 41 :: y := h
      simpa using h
    obtain ⟨h1, h2⟩ := sd_inj d e hd he 44 44 _ _ (.inl rfl) (.inl rfl) h
    injection h2 with _ h2
    injection h2 with h2 _
    exact absurd h2 (by decide)
  | d :: f :: r, e :: g :: q, hd, he, x, y, h => by
    obtain ⟨hd, hds⟩ := Bool.and_eq_true_iff.mp (show (nice d && nices (f :: r)) = true from hd)
    obtain ⟨he, hes⟩ := Bool.and_eq_true_iff.mp (show (nice e && nices (g :: q)) = true from he)
    have h : SD d ++ 44 :: (32 :: (J1 (f :: r) ++ ([41] ++ x))) = SD e ++ 44 :: (32 :: (J1 (g :: q) ++ ([41] ++ y))) := by
      have h : SD d ++ 44 :: 32 :: J1 (f :: r) ++ ([41] ++ x) = SD e ++ 44 :: 32 :: J1 (g :: q) ++ ([41] ++ y) := h
      simpa using h
    obtain ⟨h1, h2⟩ := sd_inj d e hd he 44 44 _ _ (.inl rfl) (.inl rfl) h
    injection h2 with _ h2
    injection h2 with _ h2
    have h3 := js_more (f :: r) (g :: q) hds hes x y h2
    exact ⟨by rw [h1, h3.1], h3.2⟩
theorem js_more : ∀ (ds es : List D), nices ds = true → nices es = true → ∀ (x y : List Nat), J1 ds ++ ([41] ++ x) = J1 es ++ ([41] ++ y) → ds = es ∧ x = y
  | [], [], _, _, x, y, h => by
    have h : 41 :: x = 41 :: y := h
    injection h with _ h
    exact ⟨rfl, h⟩
  | [], [e], _, he, x, y, h => by
    have he : nice e = true := (nices_all _).mp he e (by simp)
    obtain ⟨c, t, e1, e2⟩ := sd_head he
    have h : 41 :: x = SD e ++ (41 :: y) := h
    rw [e1] at h
    injection h with h _
    exact absurd h.symm e2
  | [], e :: f :: r, _, he, x, y, h => by
    have he : nice e = true := (nices_all _).mp he e (by simp)
    obtain ⟨c, t, e1, e2⟩ := sd_head he
    have h : 41 :: x = SD e ++ 44 :: 32 :: J1 (f :: r) ++ ([41] ++ y) := h
    rw [e1] at h
    injection h with h _
    exact absurd h.symm e2
  | [d], [], hd, _, x, y, h => by
    have hd : nice d = true := (nices_all _).mp hd d (by simp)
    obtain ⟨c, t, e1, e2⟩ := sd_head hd
    have h : SD d ++ (41 :: x) = 41 :: y := h
    rw [e1] at h
    injection h with h _
    exact absurd h e2
  | d :: e :: r, [], hd, _, x, y, h => by
    have hd : nice d = true := (nices_all _).mp hd d (by simp)
    obtain ⟨c, t, e1, e2⟩ := sd_head hd
    have h : SD d ++ 44 :: 32 :: J1 (e :: r) ++ ([41] ++ x) = 41 :: y := h
    rw [e1] at h
    injection h with h _
    exact absurd h e2
  | [d], [e], hd, he, x, y, h => by
    obtain ⟨hd, _⟩ := Bool.and_eq_true_iff.mp (show (nice d && nices []) = true from hd)
    obtain ⟨he, _⟩ := Bool.and_eq_true_iff.mp (show (nice e && nices []) = true from he)
    obtain ⟨h1, h2⟩ := sd_inj d e hd he 41 41 x y (.inr rfl) (.inr rfl) h
    injection h2 with _ h2
    exact ⟨by rw [h1], h2⟩
  | [d], e :: f :: r, hd, he, x, y, h => by
    obtain ⟨hd, _⟩ := Bool.and_eq_true_iff.mp (show (nice d && nices []) = true from hd)
    obtain ⟨he, _⟩ := Bool.and_eq_true_iff.mp (show (nice e && nices (f :: r)) = true from he)
    have h : SD d ++ 41 :: x = SD e ++ 44 :: (32 :: (J1 (f :: r) ++ ([41] ++ y))) := by
      have h : SD d ++ 41 :: x = SD e ++ 44 :: 32 :: J1 (f :: r) ++ ([41] ++ y) := h
      simpa using h
    obtain ⟨h1, h2⟩ := sd_inj d e hd he 41 44 _ _ (.inr rfl) (.inl rfl) h
    injection h2 with h2 _
    exact absurd h2 (by decide)
  | d :: f :: r, [e], hd, he, x, y, h => by
    obtain ⟨hd, _⟩ := Bool.and_eq_true_iff.mp (show (nice d && nices (f :: r)) = true from hd)
    obtain ⟨he, _⟩ := Bool.and_eq_true_iff.mp (show (nice e && nices []) = true from he)
    have h : SD d ++ 44 :: (32 :: (J1 (f :: r) ++ ([41] ++ x))) = SD e ++ 41 :: y := by
      have h : SD d ++ 44 :: 32 :: J1 (f :: r) ++ ([41] ++ x) = SD e ++ 41 :: y := h
      simpa using h
    obtain ⟨h1, h2⟩ := sd_inj d e hd he 44 41 _ _ (.inl rfl) (.inr rfl) h
    injection h2 with h2 _
    exact absurd h2 (by decide)
  | d :: f :: r, e :: g :: q, hd, he, x, y, h => by
    obtain ⟨hd, hds⟩ := Bool.and_eq_true_iff.mp (show (nice d && nices (f :: r)) = true from hd)
    obtain ⟨he, hes⟩ := Bool.and_eq_true_iff.mp (show (nice e && nices (g :: q)) = true from he)
    have h : SD d ++ 44 :: (32 :: (J1 (f :: r) ++ ([41] ++ x))) = SD e ++ 44 :: (32 :: (J1 (g :: q) ++ ([41] ++ y))) := by
      have h : SD d ++ 44 :: 32 :: J1 (f :: r) ++ ([41] ++ x) = SD e ++ 44 :: 32 :: J1 (g :: q) ++ ([41] ++ y) := h
      simpa using h
    obtain ⟨h1, h2⟩ := sd_inj d e hd he 44 44 _ _ (.inl rfl) (.inl rfl) h
    injection h2 with _ h2
    injection h2 with _ h2
    have h3 := js_more (f :: r) (g :: q) hds hes x y h2
    exact ⟨by rw [h1, h3.1], h3.2⟩
end
theorem shownE_inj {d e : D} (hd : nice d = true) (he : nice e = true) : shownE d = shownE e ↔ d = e := by
  refine ⟨fun h => ?_, fun h => by rw [h]⟩
  rw [shownE_eq, shownE_eq] at h
  exact (sd_inj d e hd he 41 41 [] [] (.inr rfl) (.inr rfl) (by unfold SD sh; rw [h])).1
end K01
namespace K01
open PySem PySem.Spec PyProof.Rows L2 L2H Sw Dl Ss
/-! ### a drawn plan -/
structure Wl where
  cnt : Int
  go : List R3
  en : List Int
structure VW (w : Wl) : Prop where
  c0 : 1 ≤ w.cnt
  c1 : w.cnt ≤ 4
  g : ∀ p ∈ w.go, VM w.cnt p
  e : ∀ i ∈ w.en, 0 ≤ i ∧ i < w.cnt
  ga : ascB w.go = true
  tw : twin w.go = none
  ea : ascB w.en = true
  gl : w.go.length ≤ 12
  el : w.en.length ≤ 4
def lotD (w : Wl) : D := .tup [.int w.cnt, .tup (List.map mD w.go), .tup (List.map D.int w.en)]
def cd (z : Str) : Nat := z.cps.toList.headD 0
def KL (p q : R3) : Prop := p.1 < q.1 ∨ (p.1 = q.1 ∧ cd p.2 < cd q.2)
theorem lt_chr {c d : Nat} (h : c < d) : lt' (chr c) (chr d) = true := decide_eq_true (by
  show [c] < [d]
  exact List.Lex.rel h)
theorem kl_lt {m : Int} {p q : R3} (vp : VM m p) (vq : VM m q) (h : KL p q) : lt' p q = true ∧ ¬ (p.1 = q.1 ∧ p.2 = q.2) := by
  obtain ⟨c, ec, _⟩ := vp.b
  obtain ⟨d, ed, _⟩ := vq.b
  constructor
  · show (if p.1 = q.1 then (if p.2 = q.2 then PySem.W.DatumOrd.lt p.3 q.3 else PySem.W.DatumOrd.lt p.2 q.2) else PySem.W.DatumOrd.lt p.1 q.1) = true
    rcases h with h | ⟨h1, h2⟩
    · rw [if_neg (by omega)]
      exact decide_eq_true h
    · rw [ec, ed] at h2
      have h2 : c < d := h2
      rw [if_pos h1, ec, ed, if_neg (fun e => by
        have : [c] = [d] := congrArg (fun z : Str => z.cps.toList) e
        injection this with h _
        omega)]
      exact lt_chr h2
  · rintro ⟨e1, e2⟩
    rcases h with h | ⟨h1, h2⟩
    · omega
    · rw [e2] at h2; omega
theorem asc_adj {α : Type} [DecidableEq α] [PySem.W.DatumOrd α] : ∀ {l : List α}, l.Pairwise (fun x y => lt' x y = true) → ascB l = true
  | [], _ => rfl
  | [_], _ => rfl
  | a :: b :: r, h => by
    rw [ascB_cons, asc_adj (List.pairwise_cons.mp h).2, Bool.and_true]
    exact (List.pairwise_cons.mp h).1 b (by simp)
theorem twin_adj : ∀ {l : List R3}, l.Pairwise (fun x y => ¬ (x.1 = y.1 ∧ x.2 = y.2)) → twin l = none
  | [], _ => rfl
  | [_], _ => rfl
  | a :: b :: r, h => by
    show (if a.1 = b.1 ∧ a.2 = b.2 then some b else twin (b :: r)) = none
    rw [if_neg ((List.pairwise_cons.mp h).1 b (by simp)), twin_adj (List.pairwise_cons.mp h).2]
theorem kl_asc {m : Int} {l : List R3} (v : ∀ p ∈ l, VM m p) (h : l.Pairwise KL) : ascB l = true ∧ twin l = none := by
  have h2 : l.Pairwise fun x y => lt' x y = true ∧ ¬ (x.1 = y.1 ∧ x.2 = y.2) := h.imp_of_mem fun {x y} hx hy k => kl_lt (v x hx) (v y hy) k
  exact ⟨asc_adj (h2.imp fun h => h.1), twin_adj (h2.imp fun h => h.2)⟩
theorem lcL_R {vs : List Nat} {g : DGT} {tt : DTT} {te : DT} {P : D → Ds → Prop} {ρ : List (Option Sl)} (J : List D → List D → Int → Prop) : ∀ (ds : List D) (acc : List D) (dr : Int),
    (∀ d ds' acc dr, J (d :: ds') acc dr → ∀ (A : D → Ds → Prop) (B : Ds → Prop), (∀ y S', wipeD S'.ρ vs = ρ → J ds' (acc ++ [y]) S'.dr → A y S') → (∀ S', wipeD S'.ρ vs = ρ → J ds' acc S'.dr → B S') →
      g d ⟨wipeD ρ vs, dr⟩ fun S2 => tt S2 fun b S3 => onT b (te S3 A) (B S3)) →
    acc.length + ds.length ≤ sizeLine → (∀ acc dr, J [] acc dr → P (.lst acc) ⟨ρ, dr⟩) → J ds acc dr → lcL vs g tt te P ds acc ⟨ρ, dr⟩
  | [], acc, dr, _, _, fin, j => fin acc dr j
  | d :: ds, acc, dr, st, hz, fin, j => by
    rw [List.length_cons] at hz
    unfold lcL
    refine st d ds acc dr j _ _ (fun y S' e j' => ⟨by omega, ?_⟩) fun S' e j' => ?_
    · rw [e]
      exact lcL_R J ds (acc ++ [y]) S'.dr st (by rw [List.length_append]; simp only [List.length_cons, List.length_nil]; omega) fin j'
    · rw [e]
      exact lcL_R J ds acc S'.dr st (by omega) fin j'
def intsL (i : Nat) : Nat → List D
  | 0 => []
  | n + 1 => .int (i : Int) :: intsL (i + 1) n
theorem upto_ints (n : Nat) : upto 0 ((n : Nat) : Int).toNat = intsL 0 n := by
  have h : ∀ (n i : Nat), (List.range' i n).map (fun j : Nat => D.int (0 + (j : Int))) = intsL i n := fun n => by
    induction n with
    | zero => intro i; rfl
    | succ n ih =>
      intro i
      rw [List.range'_succ, List.map_cons, ih]
      show D.int (0 + (i : Int)) :: _ = D.int (i : Int) :: _
      rw [Int.zero_add]
  unfold upto
  rw [Int.toNat_natCast, List.range_eq_range']
  exact h n 0
theorem intsL_len (n : Nat) : ∀ i, (intsL i n).length = n := by
  induction n with
  | zero => intro i; rfl
  | succ n ih => intro i; show (intsL (i + 1) n).length + 1 = _; rw [ih]
section
variable {P : Program} {w : World} {K : PySem.W.Frag} {mg : Str → Option Value} {base : Heap} {k : Dek} {dd ll : Addr}
def spDrawn (d : Addr) : DSp := fun ds n P => ∃ a b, ds = [a, b] ∧ a = dkD d ∧ ∃ t : Nat, b = .int t ∧ 1 ≤ t ∧ t ≤ 4 ∧ n < 800000 ∧ ∀ (w : Wl) (n' : Int), VW w → n' ≤ n + 40 → P (lotD w) n'
theorem ok__law_drawn (T : Tx K mg) : FnK P w K mg base 3 T.f__law_drawn T.d__law_drawn ["_law_deck_here", "_law_top"] (deckD dd ll) (spDrawn dd) := by
  refine fnk_of T.F__law_drawn sc__law_drawn (fun ds n P h => ?_) fun cv A out s H E W ds n Q hr h => ?_
  · obtain ⟨_, _, rfl, _⟩ := h; rfl
  obtain ⟨_, _, rfl, rfl, t, rfl, ht1, ht2, hn, hq⟩ := h
  have lz := line_big
  refine ⟨_, (dss_cons (ds_set (i := 2) sc__law_drawn.nd rfl (by first | exact .inl rfl | exact .inr rfl) (de_callK (ok__law_pick T) (hr.mono (by first | decide | omega)) (by rfl) T.g__law_pick T.F__law_pick.kp (bd__law_pick T) (da_cons (dn 0) (da_cons (DO.de (do_lst (da_cons de_str (da_cons de_str (da_cons de_str (da_cons de_str (da_cons de_str (da_cons de_str (da_cons de_str (da_cons de_str (da_cons de_str (da_cons de_str da_nil)))))))))))) da_nil))))
      (dss_cons (ds_par2O (i := 3) (j := 4) (fun h => ps_par rfl sc__law_drawn.nd rfl rfl (by decide) rfl rfl h rfl) (de_op do_op_add de_int (de_callK (ok__law_draw T) (hr.mono (by first | decide | omega)) (by rfl) T.g__law_draw T.F__law_draw.kp (bd__law_draw T) (da_cons (dn 0) (da_cons (dn 1) da_nil)))))
      (dss_cons (ds_for PassesOwn.never rfl (di_range1 (by rfl) T.b_range (da_cons (dn 3) da_nil)) (dg_name (i := 5) sc__law_drawn.nd rfl (by first | exact .inl rfl | exact .inr rfl)) (dss_one (ds_for PassesOwn.never rfl (di_any (dn 2)) (dg_name (i := 6) sc__law_drawn.nd rfl (by first | exact .inl rfl | exact .inr rfl)) (dss_one (ds_if (dt_cmp (DOpB.op do_gt) (de_callK (ok__law_draw T) (hr.mono (by first | decide | omega)) (by rfl) T.g__law_draw T.F__law_draw.kp (bd__law_draw T) (da_cons (dn 0) (da_cons de_int da_nil))) de_int) (dss_one (ds_expr (de_append (pv 4) (de_tup (da_cons (dn 5) (da_cons (dn 6) (da_cons (de_callK (ok__law_draw T) (hr.mono (by first | decide | omega)) (by rfl) T.g__law_draw T.F__law_draw.kp (bd__law_draw T) (da_cons (dn 0) (da_cons (dn 3) da_nil))) da_nil)))) (fun ho ha => pe_bm PySem.F.plainAttrs_list PySem.F.slot_list_append PySem.F.type_list_append mt_append ho ha)))) dss_nil)))))
      (dss_one (ds_ret (de_tup (da_cons (dn 3) (da_cons (de_callTy dc_tuple (by rfl) T.b_tuple (by decide +kernel) (da_cons (dn 4) da_nil)) (da_cons (de_callTy dc_tuple (by rfl) T.b_tuple (by decide +kernel) (da_cons (DO.de (do_lc (own := [("_law_state", 5)]) rfl sc__law_drawn.nd (di_range1 (by rfl) T.b_range (da_cons (dn 3) da_nil)) (blkOk_by (N := ["_law_deck_here", "_law_top", "_law_signs", "_law_count", "_law_ways", "_law_state", "_law_sign"]) (sc := defScope (top 49)) (by decide +kernel)) (fun _ _ _ _ _ _ => (dg_name (i := 5) sc__law_drawn.nd rfl (by first | exact .inl rfl | exact .inr rfl))) (fun _ _ _ _ _ _ => (dts_one (dt_cmp (DOpB.op do_lt) (de_callK (ok__law_draw T) (hr.mono (by first | decide | omega)) (by rfl) T.g__law_draw T.F__law_draw.kp (bd__law_draw T) (da_cons (dn 0) (da_cons de_int da_nil))) de_int))) (fun _ _ _ _ _ _ => (dn 5)))) da_nil)) da_nil))))))))), ?_⟩
  refine seqS (fun S' => ∃ zs : Str, S' = ⟨[some (.v (dkD dd)), some (.v (.int t)), some (.v (.str zs)), none, none, none, none], n + 1⟩ ∧ zs.cps.toList.Pairwise (· < ·) ∧ (∀ c ∈ zs.cps.toList, az c = true) ∧ zs.cps.toList.length ≤ 3) (fun N hN => ?_) ?_
  · conv => whnf
    refine ⟨by decide, ?_⟩
    conv => whnf
    refine ⟨_, _, rfl, rfl, _, rfl, by show 1 ≤ 10; decide, by show 10 ≤ 1000; decide, by first | omega | (dsimp only; omega), fun y hy => ?_⟩
    obtain ⟨zs, rfl, hs1, hs2, hsz⟩ : ∃ zs : Str, y = .str zs ∧ zs.cps.toList.Pairwise (· < ·) ∧ (∀ c ∈ zs.cps.toList, az c = true) ∧ zs.cps.toList.length ≤ 3 := by
      simp only [List.mem_cons, List.not_mem_nil, or_false] at hy
      rcases hy with rfl | rfl | rfl | rfl | rfl | rfl | rfl | rfl | rfl | rfl <;> exact ⟨_, rfl, by decide, by decide, by decide⟩
    exact hN _ ⟨zs, rfl, hs1, hs2, hsz⟩
  rintro _ ⟨zs, rfl, hs1, hs2, hsz⟩
  refine seqS (fun S' => ∃ cn : Nat, S' = ⟨[some (.v (dkD dd)), some (.v (.int t)), some (.v (.str zs)), some (.v (.int cn)), some (.o (.lst [])), none, none], n + 1 + 1⟩ ∧ 1 ≤ cn ∧ cn ≤ 4) (fun N hN => ?_) ?_
  · conv => whnf
    refine ⟨_, rfl, by first | omega | (dsimp only; omega), by omega, by omega, fun j0 hj0 hj1 => ?_⟩
    conv => whnf
    obtain ⟨cn, ecn⟩ : ∃ i : Nat, 1 + j0 = (i : Int) := ⟨(1 + j0).toNat, by omega⟩
    rw [ecn]
    exact hN _ ⟨cn, rfl, by omega, by omega⟩
  rintro _ ⟨cn, rfl, hcn1, hcn2⟩
  have eu : ∀ i : Nat, (upto 0 ((i : Nat) : Int).toNat).length = i := fun i => by unfold upto; rw [List.length_map, List.length_range]; omega
  refine seqS (fun S' => ∃ (go : List R3) (v5 v6 : Option Sl) (dr : Int), S' = ⟨[some (.v (dkD dd)), some (.v (.int t)), some (.v (.str zs)), some (.v (.int cn)), some (.o (.lst (List.map mD go))), v5, v6], dr⟩ ∧ (∀ p ∈ go, VM cn p) ∧ go.Pairwise KL ∧ go.length ≤ 12 ∧ dr ≤ n + 26 ∧ (v5 = none ∨ ∃ d, v5 = some (.v d))) (fun N hN => ?_) ?_
  · conv => whnf
    refine ⟨by first | omega | (dsimp only; omega), ?_⟩
    refine forL_J (fun (ds' : List D) (S' : Ds) => ∃ (go : List R3) (v5 v6 : Option Sl) (dr : Int) (i : Nat), S' = ⟨[some (.v (dkD dd)), some (.v (.int t)), some (.v (.str zs)), some (.v (.int cn)), some (.o (.lst (List.map mD go))), v5, v6], dr⟩ ∧ i + ds'.length = cn ∧ (∀ p ∈ go, VM cn p ∧ p.1 < i) ∧ go.Pairwise KL ∧ go.length ≤ 3 * i ∧ dr ≤ n + 2 + 6 * i ∧ (v5 = none ∨ ∃ d, v5 = some (.v d))) _ _ ?_ ?_
      ⟨[], none, none, _, 0, rfl, by rw [eu]; omega, (fun _ h => by cases h), .nil, Nat.le_refl _, by first | omega | (dsimp only; omega), .inl rfl⟩
    · rintro d ds' S ⟨pre, epre⟩ ⟨go, v5, v6, dr, i, rfl, hi, hv, hk, hl, hdr, -⟩ N2 hN2
      rw [List.length_cons] at hi
      obtain rfl : d = .int (i : Int) := by
        have hp : pre.length = i := by
          have := congrArg List.length epre
          rw [eu, List.length_append, List.length_cons] at this
          omega
        have e : (upto 0 ((cn : Nat) : Int).toNat)[pre.length]? = some d := by rw [epre]; simp
        unfold upto at e
        rw [List.getElem?_map, List.getElem?_range (by omega)] at e
        cases e
        show D.int (0 + ((pre.length : Nat) : Int)) = _
        rw [hp, Int.zero_add]
      refine gN_go ?_
      conv => whnf
      refine forL_J (fun (ds2 : List D) (S' : Ds) => ∃ (cs : List Nat) (go : List R3) (v6 : Option Sl) (dr : Int), ds2 = cs.map (fun c => D.str (chr c)) ∧ S' = ⟨[some (.v (dkD dd)), some (.v (.int t)), some (.v (.str zs)), some (.v (.int cn)), some (.o (.lst (List.map mD go))), some (.v (.int (i : Int))), v6], dr⟩ ∧ cs.Pairwise (· < ·) ∧ (∀ c ∈ cs, az c = true) ∧ (∀ p ∈ go, VM cn p ∧ (p.1 < i ∨ (p.1 = i ∧ ∀ c ∈ cs, cd p.2 < c))) ∧ go.Pairwise KL ∧ go.length + cs.length ≤ 3 * i + 3 ∧ dr + 2 * cs.length ≤ n + 2 + 6 * i + 6) _ _ ?_ ?_
        ⟨zs.cps.toList, go, v6, dr, rfl, rfl, hs1, hs2, fun p hp => ⟨(hv p hp).1, .inl (hv p hp).2⟩, hk, by omega, by omega⟩
      · rintro d2 ds2 S - ⟨cs, go, v6, dr, e, rfl, hc1, hc2, hv, hk, hl, hdr⟩ N3 hN3
        cases cs with
        | nil => cases e
        | cons c cs =>
          injection e with e1 e2
          subst e1 e2
          rw [List.length_cons] at hl hdr
          obtain ⟨q1, q2⟩ := List.pairwise_cons.mp hc1
          have old : ∀ p ∈ go, VM cn p ∧ (p.1 < i ∨ (p.1 = i ∧ ∀ c ∈ cs, cd p.2 < c)) := fun p hp => ⟨(hv p hp).1, (hv p hp).2.imp id fun h => ⟨h.1, fun x hx => h.2 x (List.mem_cons_of_mem _ hx)⟩⟩
          conv => whnf
          refine ⟨3, rfl, by first | omega | (dsimp only; omega), by decide, by decide, fun j1 hj10 hj11 => ?_⟩
          refine onT_of (fun _ => ?_) (fun _ => ?_)
          · conv => whnf
            refine ⟨rfl, ?_⟩
            conv => whnf
            refine ⟨_, rfl, by first | omega | (dsimp only; omega), by omega, by omega, fun a2 ha20 ha21 => ?_⟩
            conv => whnf
            refine ⟨by show 3 ≤ sizeLine; omega, ?_⟩
            conv => whnf
            refine ⟨by rw [List.length_map]; omega, ?_⟩
            have vn : VM cn ⟨i, chr c, a2⟩ := ⟨by show (0 : Int) ≤ i; omega, by show (i : Int) < cn; omega, ⟨c, rfl, hc2 c (by simp)⟩, ha20, ha21⟩
            refine hN3 _ ⟨cs, go ++ [⟨i, chr c, a2⟩], _, _, rfl, by rw [List.map_append]; rfl, q2, fun x hx => hc2 x (List.mem_cons_of_mem _ hx), fun p hp => ?_, ?_, by rw [List.length_append]; show _ + 1 + _ ≤ _; omega, by first | omega | (dsimp only; omega)⟩
            · rcases List.mem_append.mp hp with hp | hp
              · exact old p hp
              · rw [List.mem_singleton.mp hp]
                exact ⟨vn, .inr ⟨rfl, fun x hx => q1 x hx⟩⟩
            · refine List.pairwise_append.mpr ⟨hk, List.pairwise_singleton _ _, fun p hp q hq' => ?_⟩
              rw [List.mem_singleton.mp hq']
              rcases (hv p hp).2 with h | ⟨h1, h2⟩
              · exact .inl h
              · exact .inr ⟨h1, h2 c (by simp)⟩
          · exact hN3 _ ⟨cs, go, _, _, rfl, rfl, q2, fun x hx => hc2 x (List.mem_cons_of_mem _ hx), old, hk, by omega, by first | omega | (dsimp only; omega)⟩
      · rintro S ⟨cs, go, v6, dr, e, rfl, hc1, hc2, hv, hk, hl, hdr⟩
        cases cs with
        | cons _ _ => cases e
        | nil =>
          have hl : go.length + 0 ≤ 3 * i + 3 := hl
          have hdr : dr + 2 * ((0 : Nat) : Int) ≤ n + 2 + 6 * i + 6 := hdr
          refine hN2 _ ⟨go, _, _, _, i + 1, rfl, by omega, fun p hp => ⟨(hv p hp).1, ?_⟩, hk, by omega, by omega, .inr ⟨_, rfl⟩⟩
          rcases (hv p hp).2 with h | h
          · omega
          · omega
    · rintro S ⟨go, v5, v6, dr, i, rfl, hi, hv, hk, hl, hdr, h5⟩
      have hi : i + 0 = cn := hi
      exact hN _ ⟨go, v5, v6, dr, rfl, fun p hp => (hv p hp).1, hk, by omega, by omega, h5⟩
  rintro _ ⟨go, v5, v6, dr, rfl, hv, hk, hl, hdr, h5⟩
  obtain ⟨hka, hkt⟩ := kl_asc hv hk
  have hl2 : go.length ≤ 12 := hl
  rcases h5 with rfl | ⟨d5, rfl⟩
  · conv => whnf
    refine ⟨by first | omega | (dsimp only; omega), ?_⟩
    conv => whnf
    rw [upto_ints]
    refine lcL_R (fun rest acc dr' => ∃ (i m : Nat) (es : List Int), rest = intsL i m ∧ i + m = cn ∧ acc = es.map D.int ∧ es.length ≤ i ∧ (∀ e ∈ es, 0 ≤ e ∧ e < i) ∧ es.Pairwise (· < ·) ∧ dr' ≤ dr + i) (intsL 0 cn) [] _ ?_ (by rw [intsL_len]; show 0 + cn ≤ _; omega) ?_ ⟨0, cn, [], rfl, by omega, rfl, Nat.le_refl _, (fun _ h => by cases h), .nil, by first | omega | (dsimp only; omega)⟩
    · rintro d rest acc dr' ⟨i, m, es, e, him, rfl, hl, hv2, hp, hdr'⟩ A B hA hB
      cases m with
      | zero => cases e
      | succ m =>
        injection e with e1 e2
        subst e1 e2
        conv => whnf
        refine ⟨5, rfl, by first | omega | (dsimp only; omega), by decide, by decide, fun j1 hj10 hj11 => ?_⟩
        refine onT_of (fun _ => ?_) (fun _ => ?_)
        · refine hA _ _ rfl ⟨i + 1, m, es ++ [(i : Int)], rfl, by omega, by rw [List.map_append]; rfl, by rw [List.length_append]; show es.length + 1 ≤ i + 1; omega, fun e he => ?_, List.pairwise_append.mpr ⟨hp, List.pairwise_singleton _ _, fun x hx y hy => ?_⟩, by first | omega | (dsimp only; omega)⟩
          · rcases List.mem_append.mp he with he | he
            · have := hv2 e he; omega
            · rw [List.mem_singleton.mp he]; omega
          · rw [List.mem_singleton.mp hy]; exact (hv2 x hx).2
        · exact hB _ rfl ⟨i + 1, m, es, rfl, by omega, rfl, by omega, fun e he => by have := hv2 e he; omega, hp, by first | omega | (dsimp only; omega)⟩
    · rintro acc dr' ⟨i, m, es, e, him, rfl, hl, hv2, hp, hdr'⟩
      cases m with
      | succ m => cases e
      | zero =>
        have him : i + 0 = cn := him
        ((repeat ((conv => whnf); first | refine ⟨(fun z e => by cases e), ?_⟩ | refine ⟨_, _, _, rfl, rfl, ?_⟩ | refine ⟨_, _, _, _, rfl, rfl, rfl, ?_⟩ | refine ⟨rfl, ?_⟩ | refine ⟨Nat.le_of_ble_eq_true rfl, ?_⟩ | refine ⟨by decide, ?_⟩)); (conv => whnf))
        refine hq ⟨cn, go, es⟩ _ ⟨by show (1 : Int) ≤ (cn : Int); omega, by show (cn : Int) ≤ 4; omega, hv, fun e he => by have := hv2 e he; show 0 ≤ e ∧ e < (cn : Int); omega, hka, hkt, asc_adj (hp.imp fun h => decide_eq_true h), hl2, by show es.length ≤ 4; omega⟩ (by first | omega | (dsimp only; omega))
  · conv => whnf
    refine ⟨by first | omega | (dsimp only; omega), ?_⟩
    conv => whnf
    rw [upto_ints]
    refine lcL_R (fun rest acc dr' => ∃ (i m : Nat) (es : List Int), rest = intsL i m ∧ i + m = cn ∧ acc = es.map D.int ∧ es.length ≤ i ∧ (∀ e ∈ es, 0 ≤ e ∧ e < i) ∧ es.Pairwise (· < ·) ∧ dr' ≤ dr + i) (intsL 0 cn) [] _ ?_ (by rw [intsL_len]; show 0 + cn ≤ _; omega) ?_ ⟨0, cn, [], rfl, by omega, rfl, Nat.le_refl _, (fun _ h => by cases h), .nil, by first | omega | (dsimp only; omega)⟩
    · rintro d rest acc dr' ⟨i, m, es, e, him, rfl, hl, hv2, hp, hdr'⟩ A B hA hB
      cases m with
      | zero => cases e
      | succ m =>
        injection e with e1 e2
        subst e1 e2
        conv => whnf
        refine ⟨5, rfl, by first | omega | (dsimp only; omega), by decide, by decide, fun j1 hj10 hj11 => ?_⟩
        refine onT_of (fun _ => ?_) (fun _ => ?_)
        · refine hA _ _ rfl ⟨i + 1, m, es ++ [(i : Int)], rfl, by omega, by rw [List.map_append]; rfl, by rw [List.length_append]; show es.length + 1 ≤ i + 1; omega, fun e he => ?_, List.pairwise_append.mpr ⟨hp, List.pairwise_singleton _ _, fun x hx y hy => ?_⟩, by first | omega | (dsimp only; omega)⟩
          · rcases List.mem_append.mp he with he | he
            · have := hv2 e he; omega
            · rw [List.mem_singleton.mp he]; omega
          · rw [List.mem_singleton.mp hy]; exact (hv2 x hx).2
        · exact hB _ rfl ⟨i + 1, m, es, rfl, by omega, rfl, by omega, fun e he => by have := hv2 e he; omega, hp, by first | omega | (dsimp only; omega)⟩
    · rintro acc dr' ⟨i, m, es, e, him, rfl, hl, hv2, hp, hdr'⟩
      cases m with
      | succ m => cases e
      | zero =>
        have him : i + 0 = cn := him
        ((repeat ((conv => whnf); first | refine ⟨(fun z e => by cases e), ?_⟩ | refine ⟨_, _, _, rfl, rfl, ?_⟩ | refine ⟨_, _, _, _, rfl, rfl, rfl, ?_⟩ | refine ⟨rfl, ?_⟩ | refine ⟨Nat.le_of_ble_eq_true rfl, ?_⟩ | refine ⟨by decide, ?_⟩)); (conv => whnf))
        refine hq ⟨cn, go, es⟩ _ ⟨by show (1 : Int) ≤ (cn : Int); omega, by show (cn : Int) ≤ 4; omega, hv, fun e he => by have := hv2 e he; show 0 ≤ e ∧ e < (cn : Int); omega, hka, hkt, asc_adj (hp.imp fun h => decide_eq_true h), hl2, by show es.length ≤ 4; omega⟩ (by first | omega | (dsimp only; omega))
end
end K01
namespace K01
open PySem PySem.Spec PyProof.Rows L2 L2H Sw Dl Ss
/-! ### spoilt plans -/
def Sz (i : Nat) : Nat := match i with
  | 0 => 70
  | 1 => 230
  | _ => 710
theorem Sz_s {i : Nat} (h : i ≤ 1) : 3 * Sz i + 20 ≤ Sz (i + 1) := by
  match i, h with
  | 0, _ => decide
  | 1, _ => decide
theorem Sz_70 (i : Nat) : 70 ≤ Sz i := by
  match i with
  | 0 => decide
  | 1 => decide
  | _ + 2 => show 70 ≤ 710; decide
theorem Sz_710 (i : Nat) : Sz i ≤ 710 := by
  match i with
  | 0 => decide
  | 1 => decide
  | _ + 2 => exact Nat.le_refl _
structure Rb (i : Nat) (x : D) : Prop where
  a : anyV 1 x = true
  d : dep x ≤ 3 + 2 * i
  s : siz x ≤ Sz i
  w : wdt (16 + i) x = true
/-- a way that is spoilt -/
structure Yb (i : Nat) (x : D) : Prop where
  a : anyV 1 x = true
  d : dep x ≤ 4 + 2 * i
  s : siz x ≤ 2 * Sz i + 10
  w : wdt (16 + i) x = true
theorem Rb.up {i : Nat} {x : D} (h : Rb i x) (hi : i ≤ 1) : Rb (i + 1) x := ⟨h.a, by have := h.d; omega, by have := h.s; have := Sz_s hi; omega, wdt_up (by omega) _ h.w⟩
theorem Yb.rb {i : Nat} {x : D} (h : Yb i x) (hi : i ≤ 1) : Rb (i + 1) x := ⟨h.a, by have := h.d; omega, by have := h.s; have := Sz_s hi; have := Sz_70 i; omega, wdt_up (by omega) _ h.w⟩
theorem yb_tup {i : Nat} {ds : List D} (h1 : ∀ d ∈ ds, anyV 1 d = true ∧ dep d ≤ 3 + 2 * i ∧ wdt (16 + i) d = true) (h2 : sizS ds + 1 ≤ 2 * Sz i + 10) (h3 : ds.length ≤ 16) : Yb i (.tup ds) :=
  ⟨(anyVs_all ds).mpr fun d hd => (h1 d hd).1, by have : depS ds ≤ 3 + 2 * i := depS_le.mpr fun d hd => (h1 d hd).2.1; show depS ds + 1 ≤ _; omega, h2, wdt_tup.mpr ⟨by omega, fun d hd => (h1 d hd).2.2⟩⟩
theorem yb_lst {i : Nat} {ds : List D} (h1 : ∀ d ∈ ds, anyV 1 d = true ∧ dep d ≤ 3 + 2 * i ∧ wdt (16 + i) d = true) (h2 : sizS ds + 1 ≤ 2 * Sz i + 10) (h3 : ds.length ≤ 16) : Yb i (.lst ds) :=
  ⟨(anyVs_all ds).mpr fun d hd => (h1 d hd).1, by have : depS ds ≤ 3 + 2 * i := depS_le.mpr fun d hd => (h1 d hd).2.1; show depS ds + 1 ≤ _; omega, h2, wdt_lst.mpr ⟨by omega, fun d hd => (h1 d hd).2.2⟩⟩
def smB (x : D) : Bool := anyV 1 x && (decide (dep x ≤ 2) && (decide (siz x ≤ 10) && wdt 4 x))
theorem sm_of {i : Nat} {x : D} (h : smB x = true) : Rb i x := by
  obtain ⟨h1, h⟩ := Bool.and_eq_true_iff.mp h
  obtain ⟨h2, h⟩ := Bool.and_eq_true_iff.mp h
  obtain ⟨h3, h4⟩ := Bool.and_eq_true_iff.mp h
  exact ⟨h1, by have := of_decide_eq_true h2; omega, by have := of_decide_eq_true h3; have := Sz_70 i; omega, wdt_up (by omega) _ h4⟩
theorem sm_siz {x : D} (h : smB x = true) : siz x ≤ 10 := by
  obtain ⟨h1, h⟩ := Bool.and_eq_true_iff.mp h
  obtain ⟨h2, h⟩ := Bool.and_eq_true_iff.mp h
  obtain ⟨h3, h4⟩ := Bool.and_eq_true_iff.mp h
  exact of_decide_eq_true h3
theorem up1_lt : ∀ c : Nat, c < 128 → PyProof.Rows.up1 c < 128 := by decide +kernel
theorem upper_ok {z : Str} (h : asc z = true) : asc (Txt.upper z) = true ∧ (Txt.upper z).length = z.length := by
  have h1 : ∀ c ∈ z.cps.toList, c < 128 := fun c hc => of_decide_eq_true (List.all_eq_true.mp h c hc)
  rw [PyProof.Rows.upper_ascii (x := z) h1]
  constructor
  · refine List.all_eq_true.mpr fun c hc => ?_
    have hc : c ∈ (z.cps.map PyProof.Rows.up1).toList := hc
    rw [Array.toList_map] at hc
    obtain ⟨d, hd, rfl⟩ := List.mem_map.mp hc
    exact decide_eq_true (up1_lt d (h1 d hd))
  · show (z.cps.map PyProof.Rows.up1).size = _
    rw [Array.size_map]; rfl
section
variable {P : Program} {w : World} {K : PySem.W.Frag} {mg : Str → Option Value} {base : Heap} {k : Dek} {dd ll : Addr}
def spNo (d : Addr) : DSp := fun ds n P => ∃ a c, ds = [a, c] ∧ a = dkD d ∧ n < 900000 ∧ ∀ y, (y = c ∨ smB y = true) → P y (n + 1)
theorem ok__law_no_state (T : Tx K mg) : FnK P w K mg base 3 T.f__law_no_state T.d__law_no_state ["_law_deck_here", "_law_count"] (deckD dd ll) (spNo dd) := by
  refine fnk_of T.F__law_no_state sc__law_no_state (fun ds n P h => ?_) fun cv A out s H E W ds n Q hr h => ?_
  · obtain ⟨_, _, rfl, _⟩ := h; rfl
  obtain ⟨x0, x1, rfl, h⟩ := h
  refine ⟨_, (dss_one (ds_ret (de_callK (ok__law_pick T) (hr.mono (by first | decide | omega)) (by rfl) T.g__law_pick T.F__law_pick.kp (bd__law_pick T) (da_cons (dn 0) (da_cons (DO.de (do_lst (da_cons (de_neg de_int) (da_cons (dn 1) (da_cons de_bl (da_cons de_bl (da_cons de_non (da_cons de_str (da_cons (de_tup (da_cons de_int da_nil)) (da_cons (de_op do_op_pow de_int de_int) (da_cons de_str da_nil))))))))))) da_nil))))), ?_⟩
  dsimp only [dRet, dBack, dJoin, dRetN, dSeq, dNext, dIfS, dAnd, dOr, dNot, dIf, dBool, dNotT, dAndT, dOrT, dBin, dChain, dCall, dCB, dCons, dNil, dTup, dLst, dVar, dC, dAsg, gN, gsNil, gsCons, gT, dSetO, dFor, dIAny, dIR1, dIR2, dIZip, dIEnum, dIRev, dLc, dYes, dDrop, dPar, dWhile, ownL, putO, dAppend, dExtend, dPop, dIxO, dLenO, dIx, dIsiE, dSl, dNoP, dP, dNeg, getS, setS, startD, wipeD, back, List.map]
  obtain ⟨rfl, hn, hq⟩ := h
  have lz := line_big
  conv => whnf
  refine ⟨by show 1 ≤ sizeLine; omega, ?_⟩
  conv => whnf
  refine ⟨⟨by decide, by decide, by decide⟩, ?_⟩
  conv => whnf
  refine ⟨by show 9 ≤ sizeLine; omega, ?_⟩
  conv => whnf
  refine ⟨_, _, rfl, rfl, _, rfl, by show 1 ≤ 9; decide, by show 9 ≤ 1000; decide, by first | omega | (dsimp only; omega), fun y hy => ?_⟩
  refine hq y ?_
  simp only [List.mem_cons, List.not_mem_nil, or_false] at hy
  rcases hy with rfl | rfl | rfl | rfl | rfl | rfl | rfl | rfl | rfl <;> first | exact .inl rfl | exact .inr (by decide +kernel)
def spWay (d : Addr) : DSp := fun ds n P => ∃ a c x, ds = [a, c, x] ∧ a = dkD d ∧ ∃ u z v, x = .tup [u, .str z, v] ∧ ∃ i, i ≤ 1 ∧ Rb i c ∧ Rb i x ∧ n < 800000 ∧ ∀ y n', Yb i y → n' ≤ n + 5 → P y n'
theorem ok__law_spoilt_way (T : Tx K mg) : FnK P w K mg base 4 T.f__law_spoilt_way T.d__law_spoilt_way ["_law_deck_here", "_law_count", "_law_way"] (deckD dd ll) (spWay dd) := by
  refine fnk_of T.F__law_spoilt_way sc__law_spoilt_way (fun ds n P h => ?_) fun cv A out s H E W ds n Q hr h => ?_
  · obtain ⟨_, _, _, rfl, _⟩ := h; rfl
  obtain ⟨_, ct, _, rfl, rfl, u, z, v, rfl, i, hi, hc, hx, hn, hq⟩ := h
  have lz := line_big
  refine ⟨_, (dss_cons (ds_asg (dn 2) (dg_tup (n := 3) rfl (dgs_cons (dg_name (i := 3) sc__law_spoilt_way.nd rfl (by first | exact .inl rfl | exact .inr rfl)) (dgs_cons (dg_name (i := 4) sc__law_spoilt_way.nd rfl (by first | exact .inl rfl | exact .inr rfl)) (dgs_cons (dg_name (i := 5) sc__law_spoilt_way.nd rfl (by first | exact .inl rfl | exact .inr rfl)) dgs_nil)))))
      (dss_cons (ds_setO (i := 6) sc__law_spoilt_way.nd rfl (by first | exact .inl rfl | exact .inr rfl) (do_lst (da_cons (de_tup (da_cons (de_callK (ok__law_no_state T) (hr.mono (by first | decide | omega)) (by rfl) T.g__law_no_state T.F__law_no_state.kp (bd__law_no_state T) (da_cons (dn 0) (da_cons (dn 1) da_nil))) (da_cons (dn 4) (da_cons (dn 5) da_nil)))) (da_cons (de_tup (da_cons (dn 3) (da_cons (dn 4) (da_cons (de_callK (ok__law_no_state T) (hr.mono (by first | decide | omega)) (by rfl) T.g__law_no_state T.F__law_no_state.kp (bd__law_no_state T) (da_cons (dn 0) (da_cons (dn 1) da_nil))) da_nil)))) (da_cons (DO.de (do_lst (da_cons (dn 3) (da_cons (dn 4) (da_cons (dn 5) da_nil))))) da_nil)))))
      (dss_cons (ds_setO (i := 6) sc__law_spoilt_way.nd rfl (by first | exact .inl rfl | exact .inr rfl) (do_cat (dn 6) (DO.de (do_lst (da_cons (de_tup (da_cons (dn 3) (da_cons (dn 4) da_nil))) (da_cons (de_tup (da_cons (dn 3) (da_cons (dn 4) (da_cons (dn 5) (da_cons (dn 5) da_nil))))) (da_cons (de_tup (da_cons (dn 3) (da_cons (de_upper (dn 4)) (da_cons (dn 5) da_nil)))) (da_cons (de_tup (da_cons (dn 3) (da_cons (de_op do_op_add (dn 4) (dn 4)) (da_cons (dn 5) da_nil)))) da_nil))))))))
      (dss_cons (ds_setO (i := 6) sc__law_spoilt_way.nd rfl (by first | exact .inl rfl | exact .inr rfl) (do_cat (dn 6) (DO.de (do_lst (da_cons (de_tup (da_cons (dn 3) (da_cons de_str (da_cons (dn 5) da_nil)))) (da_cons (de_tup (da_cons (dn 3) (da_cons de_non (da_cons (dn 5) da_nil)))) (da_cons (de_tup (da_cons (dn 4) (da_cons (dn 3) (da_cons (dn 5) da_nil)))) (da_cons de_non (da_cons (de_tup da_nil) (da_cons (de_tup (da_cons (dn 3) (da_cons de_str (da_cons (dn 5) da_nil)))) (da_cons (de_tup (da_cons (dn 3) (da_cons de_str (da_cons (dn 5) da_nil)))) da_nil)))))))))))
      (dss_one (ds_ret (de_callK (ok__law_pick T) (hr.mono (by first | decide | omega)) (by rfl) T.g__law_pick T.F__law_pick.kp (bd__law_pick T) (da_cons (dn 0) (da_cons (dn 6) da_nil))))))))), ?_⟩
  have z7 := Sz_710 i
  have z0 := Sz_70 i
  have hs : sizS [u, .str z, v] + 1 ≤ Sz i := hx.s
  have hs : siz u + (z.length + 1 + (siz v + 0)) + 1 ≤ Sz i := hs
  have ha := (anyVs_all _).mp (show anyVs 1 [u, .str z, v] = true from hx.a)
  have hd : depS [u, .str z, v] + 1 ≤ 3 + 2 * i := hx.d
  have hd : ∀ d ∈ [u, .str z, v], dep d ≤ 2 + 2 * i := depS_le.mp (by omega)
  have hw := (wdt_tup.mp hx.w).2
  have fu : anyV 1 u = true ∧ dep u ≤ 3 + 2 * i ∧ wdt (16 + i) u = true := ⟨ha u (by simp), by have := hd u (by simp); omega, hw u (by simp)⟩
  have fv : anyV 1 v = true ∧ dep v ≤ 3 + 2 * i ∧ wdt (16 + i) v = true := ⟨ha v (by simp), by have := hd v (by simp); omega, hw v (by simp)⟩
  have hz : asc z = true := ha (.str z) (by simp)
  have fs : ∀ y : Str, asc y = true → anyV 1 (.str y) = true ∧ dep (.str y) ≤ 3 + 2 * i ∧ wdt (16 + i) (.str y) = true := fun y h => ⟨h, Nat.zero_le _, rfl⟩
  have fn : ∀ y : D, (y = ct ∨ smB y = true) → (anyV 1 y = true ∧ dep y ≤ 3 + 2 * i ∧ wdt (16 + i) y = true) ∧ siz y ≤ Sz i := fun y h => by
    have h : Rb i y := by
      rcases h with rfl | h
      · exact hc
      · exact sm_of h
    exact ⟨⟨h.a, h.d, h.w⟩, h.s⟩
  obtain ⟨up1, up2⟩ := upper_ok hz
  refine seqE ⟨[some (.v (dkD dd)), some (.v ct), some (.v (.tup [u, .str z, v])), some (.v u), some (.v (.str z)), some (.v v), none], n⟩ (fun N hN => ?_) ?_
  · ((repeat ((conv => whnf); first | refine ⟨(fun z e => by cases e), ?_⟩ | refine ⟨_, _, _, rfl, rfl, ?_⟩ | refine ⟨_, _, _, _, rfl, rfl, rfl, ?_⟩ | refine ⟨rfl, ?_⟩ | refine ⟨Nat.le_of_ble_eq_true rfl, ?_⟩ | refine ⟨by decide, ?_⟩)); (conv => whnf))
    exact hN
  have yb1 : ∀ y1 : D, (y1 = ct ∨ smB y1 = true) → Yb i (.tup [y1, .str z, v]) := fun y1 h => yb_tup (fun d hd => by
      simp only [List.mem_cons, List.not_mem_nil, or_false] at hd
      rcases hd with rfl | rfl | rfl
      · exact (fn _ h).1
      · exact fs _ hz
      · exact fv) (by
    have := (fn _ h).2
    show siz y1 + (z.length + 1 + (siz v + 0)) + 1 ≤ _
    omega) (by show 3 ≤ 16; decide)
  have yb2 : ∀ y1 : D, (y1 = ct ∨ smB y1 = true) → Yb i (.tup [u, .str z, y1]) := fun y1 h => yb_tup (fun d hd => by
      simp only [List.mem_cons, List.not_mem_nil, or_false] at hd
      rcases hd with rfl | rfl | rfl
      · exact fu
      · exact fs _ hz
      · exact (fn _ h).1) (by
    have := (fn _ h).2
    show siz u + (z.length + 1 + (siz y1 + 0)) + 1 ≤ _
    omega) (by show 3 ≤ 16; decide)
  have yb3 : Yb i (.lst [u, .str z, v]) := yb_lst (fun d hd => by
      simp only [List.mem_cons, List.not_mem_nil, or_false] at hd
      rcases hd with rfl | rfl | rfl
      · exact fu
      · exact fs _ hz
      · exact fv) (by
    show siz u + (z.length + 1 + (siz v + 0)) + 1 ≤ _
    omega) (by show 3 ≤ 16; decide)
  have ybs : ∀ y : Str, asc y = true → y.length ≤ 2 * z.length + 1 → Yb i (.tup [u, .str y, v]) := fun y h hl => yb_tup (fun d hd => by
      simp only [List.mem_cons, List.not_mem_nil, or_false] at hd
      rcases hd with rfl | rfl | rfl
      · exact fu
      · exact fs _ h
      · exact fv) (by
    show siz u + (y.length + 1 + (siz v + 0)) + 1 ≤ _
    omega) (by show 3 ≤ 16; decide)
  refine seqS (fun S' => ∃ l : List D, S' = ⟨[some (.v (dkD dd)), some (.v ct), some (.v (.tup [u, .str z, v])), some (.v u), some (.v (.str z)), some (.v v), some (.o (.lst l))], n + 1 + 1⟩ ∧ l.length = 3 ∧ ∀ y ∈ l, Yb i y) (fun N hN => ?_) ?_
  · conv => whnf
    refine ⟨_, _, rfl, rfl, by first | omega | (dsimp only; omega), fun y1 hy1 => ?_⟩
    ((repeat ((conv => whnf); first | refine ⟨(fun z e => by cases e), ?_⟩ | refine ⟨_, _, _, rfl, rfl, ?_⟩ | refine ⟨_, _, _, _, rfl, rfl, rfl, ?_⟩ | refine ⟨rfl, ?_⟩ | refine ⟨Nat.le_of_ble_eq_true rfl, ?_⟩ | refine ⟨by decide, ?_⟩)); (conv => whnf))
    refine ⟨_, _, rfl, rfl, by first | omega | (dsimp only; omega), fun y2 hy2 => ?_⟩
    ((repeat ((conv => whnf); first | refine ⟨(fun z e => by cases e), ?_⟩ | refine ⟨_, _, _, rfl, rfl, ?_⟩ | refine ⟨_, _, _, _, rfl, rfl, rfl, ?_⟩ | refine ⟨rfl, ?_⟩ | refine ⟨Nat.le_of_ble_eq_true rfl, ?_⟩ | refine ⟨by decide, ?_⟩)); (conv => whnf))
    refine hN _ ⟨_, rfl, rfl, fun y hy => ?_⟩
    simp only [List.mem_cons, List.not_mem_nil, or_false] at hy
    rcases hy with rfl | rfl | rfl
    · exact yb1 _ hy1
    · exact yb2 _ hy2
    · exact yb3
  rintro _ ⟨l, rfl, hl, hy⟩
  refine seqS (fun S' => ∃ l : List D, S' = ⟨[some (.v (dkD dd)), some (.v ct), some (.v (.tup [u, .str z, v])), some (.v u), some (.v (.str z)), some (.v v), some (.o (.lst l))], n + 1 + 1⟩ ∧ l.length = 7 ∧ ∀ y ∈ l, Yb i y) (fun N hN => ?_) ?_
  · ((repeat ((conv => whnf); first | refine ⟨(fun z e => by cases e), ?_⟩ | refine ⟨_, _, _, rfl, rfl, ?_⟩ | refine ⟨_, _, _, _, rfl, rfl, rfl, ?_⟩ | refine ⟨rfl, ?_⟩ | refine ⟨Nat.le_of_ble_eq_true rfl, ?_⟩ | refine ⟨by decide, ?_⟩)); (conv => whnf))
    refine ⟨by omega, ?_⟩
    ((repeat ((conv => whnf); first | refine ⟨(fun z e => by cases e), ?_⟩ | refine ⟨_, _, _, rfl, rfl, ?_⟩ | refine ⟨_, _, _, _, rfl, rfl, rfl, ?_⟩ | refine ⟨rfl, ?_⟩ | refine ⟨Nat.le_of_ble_eq_true rfl, ?_⟩ | refine ⟨by decide, ?_⟩)); (conv => whnf))
    refine ⟨by omega, ?_⟩
    ((repeat ((conv => whnf); first | refine ⟨(fun z e => by cases e), ?_⟩ | refine ⟨_, _, _, rfl, rfl, ?_⟩ | refine ⟨_, _, _, _, rfl, rfl, rfl, ?_⟩ | refine ⟨rfl, ?_⟩ | refine ⟨Nat.le_of_ble_eq_true rfl, ?_⟩ | refine ⟨by decide, ?_⟩)); (conv => whnf))
    refine ⟨by omega, ?_⟩
    ((repeat ((conv => whnf); first | refine ⟨(fun z e => by cases e), ?_⟩ | refine ⟨_, _, _, rfl, rfl, ?_⟩ | refine ⟨_, _, _, _, rfl, rfl, rfl, ?_⟩ | refine ⟨rfl, ?_⟩ | refine ⟨Nat.le_of_ble_eq_true rfl, ?_⟩ | refine ⟨by decide, ?_⟩)); (conv => whnf))
    refine ⟨_, _, rfl, rfl, by rw [hl]; show 3 + 4 ≤ sizeLine; omega, ?_⟩
    refine hN _ ⟨_, rfl, by rw [List.length_append, hl]; rfl, fun y h => ?_⟩
    rcases List.mem_append.mp h with h | h
    · exact hy y h
    simp only [List.mem_cons, List.not_mem_nil, or_false] at h
    rcases h with rfl | rfl | rfl | rfl
    · refine yb_tup (fun d hd => ?_) (by show siz u + (z.length + 1 + 0) + 1 ≤ _; omega) (by show 2 ≤ 16; decide)
      simp only [List.mem_cons, List.not_mem_nil, or_false] at hd
      rcases hd with rfl | rfl
      · exact fu
      · exact fs _ hz
    · refine yb_tup (fun d hd => ?_) (by show siz u + (z.length + 1 + (siz v + (siz v + 0))) + 1 ≤ _; omega) (by show 4 ≤ 16; decide)
      simp only [List.mem_cons, List.not_mem_nil, or_false] at hd
      rcases hd with rfl | rfl | rfl | rfl
      · exact fu
      · exact fs _ hz
      · exact fv
      · exact fv
    · exact ybs _ up1 (by omega)
    · exact ybs _ (cat_asc hz hz) (by rw [cat_len]; omega)
  rintro _ ⟨l, rfl, hl, hy⟩
  refine seqS (fun S' => ∃ l : List D, S' = ⟨[some (.v (dkD dd)), some (.v ct), some (.v (.tup [u, .str z, v])), some (.v u), some (.v (.str z)), some (.v v), some (.o (.lst l))], n + 1 + 1⟩ ∧ l.length = 14 ∧ ∀ y ∈ l, Yb i y) (fun N hN => ?_) ?_
  · ((repeat ((conv => whnf); first | refine ⟨(fun z e => by cases e), ?_⟩ | refine ⟨_, _, _, rfl, rfl, ?_⟩ | refine ⟨_, _, _, _, rfl, rfl, rfl, ?_⟩ | refine ⟨rfl, ?_⟩ | refine ⟨Nat.le_of_ble_eq_true rfl, ?_⟩ | refine ⟨by decide, ?_⟩)); (conv => whnf))
    refine ⟨_, _, rfl, rfl, by rw [hl]; show 7 + 7 ≤ sizeLine; omega, ?_⟩
    refine hN _ ⟨_, rfl, by rw [List.length_append, hl]; rfl, fun y h => ?_⟩
    rcases List.mem_append.mp h with h | h
    · exact hy y h
    simp only [List.mem_cons, List.not_mem_nil, or_false] at h
    have sm : ∀ x : D, smB x = true → Yb i x := fun x hx => by
      have h := sm_of (i := i) hx
      exact ⟨h.a, by have := h.d; omega, by have := h.s; omega, h.w⟩
    rcases h with rfl | rfl | rfl | rfl | rfl | rfl | rfl
    · exact ybs _ (by decide) (by show 0 ≤ _; omega)
    · refine yb_tup (fun d hd => ?_) (by show siz u + (1 + (siz v + 0)) + 1 ≤ _; omega) (by show 3 ≤ 16; decide)
      simp only [List.mem_cons, List.not_mem_nil, or_false] at hd
      rcases hd with rfl | rfl | rfl
      · exact fu
      · exact ⟨rfl, Nat.zero_le _, rfl⟩
      · exact fv
    · refine yb_tup (fun d hd => ?_) (by show (z.length + 1) + (siz u + (siz v + 0)) + 1 ≤ _; omega) (by show 3 ≤ 16; decide)
      simp only [List.mem_cons, List.not_mem_nil, or_false] at hd
      rcases hd with rfl | rfl | rfl
      · exact fs _ hz
      · exact fu
      · exact fv
    · exact sm _ (by decide +kernel)
    · exact sm _ (by decide +kernel)
    · exact ybs _ (by decide) (by show 1 ≤ _; omega)
    · exact ybs _ (by decide) (by show 1 ≤ _; omega)
  rintro _ ⟨l, rfl, hl, hy⟩
  ((repeat ((conv => whnf); first | refine ⟨(fun z e => by cases e), ?_⟩ | refine ⟨_, _, _, rfl, rfl, ?_⟩ | refine ⟨_, _, _, _, rfl, rfl, rfl, ?_⟩ | refine ⟨rfl, ?_⟩ | refine ⟨Nat.le_of_ble_eq_true rfl, ?_⟩ | refine ⟨by decide, ?_⟩)); (conv => whnf))
  refine ⟨_, _, rfl, rfl, _, rfl, by omega, by omega, by first | omega | (dsimp only; omega), fun y h => ?_⟩
  exact hq y _ (hy y h) (by first | omega | (dsimp only; omega))
end
end K01
namespace K01
open PySem PySem.Spec PyProof.Rows L2 L2H Sw Dl Ss
theorem rb_tup {i : Nat} {ds : List D} (hi : i ≤ 1) (h1 : ∀ d ∈ ds, anyV 1 d = true ∧ dep d ≤ 4 + 2 * i ∧ wdt (16 + i) d = true) (h2 : sizS ds + 1 ≤ 3 * Sz i + 20) (h3 : ds.length ≤ 17 + i) : Rb (i + 1) (.tup ds) :=
  ⟨(anyVs_all ds).mpr fun d hd => (h1 d hd).1, by have : depS ds ≤ 4 + 2 * i := depS_le.mpr fun d hd => (h1 d hd).2.1; show depS ds + 1 ≤ _; omega, by have := Sz_s hi; show sizS ds + 1 ≤ _; omega, wdt_tup.mpr ⟨by omega, fun d hd => wdt_up (by omega) _ (h1 d hd).2.2⟩⟩
theorem rb_lst {i : Nat} {ds : List D} (hi : i ≤ 1) (h1 : ∀ d ∈ ds, anyV 1 d = true ∧ dep d ≤ 4 + 2 * i ∧ wdt (16 + i) d = true) (h2 : sizS ds + 1 ≤ 3 * Sz i + 20) (h3 : ds.length ≤ 17 + i) : Rb (i + 1) (.lst ds) :=
  ⟨(anyVs_all ds).mpr fun d hd => (h1 d hd).1, by have : depS ds ≤ 4 + 2 * i := depS_le.mpr fun d hd => (h1 d hd).2.1; show depS ds + 1 ≤ _; omega, by have := Sz_s hi; show sizS ds + 1 ≤ _; omega, wdt_lst.mpr ⟨by omega, fun d hd => wdt_up (by omega) _ (h1 d hd).2.2⟩⟩
theorem cut_mid {α : Type} (xs : List α) {i : Nat} (h : i < xs.length) : Dl.cutD xs (some (i : Int)) (some ((i : Int) + 2)) = (xs.drop i).take 2 := by
  have e : ((i : Int) + 2) = ((i + 2 : Nat) : Int) := by omega
  unfold Dl.cutD
  rw [e, HT.sIx_nat, HT.sIx_nat, Nat.min_eq_left (by omega : i ≤ xs.length)]
  refine List.take_eq_take_iff.mpr ?_
  rw [List.length_drop]
  omega
theorem drop_two {α : Type} (xs : List α) (i : Nat) : (xs.drop i).take 2 ++ xs.drop (i + 2) = xs.drop i := by
  have h := List.take_append_drop 2 (xs.drop i)
  rw [List.drop_drop] at h
  exact h
/-- a value's shape, where the law asks -/
theorem way_shape (x : D) : (∃ u z v, x = .tup [u, .str z, v]) ∨ ∀ u z v, x ≠ .tup [u, .str z, v] := by
  by_cases h : ∃ u z v, x = .tup [u, .str z, v]
  · exact .inl h
  · exact .inr fun u z v e => h ⟨u, z, v, e⟩
section
variable {P : Program} {w : World} {K : PySem.W.Frag} {mg : Str → Option Value} {base : Heap} {k : Dek} {dd ll : Addr}
def spSp (d : Addr) : DSp := fun ds n P => ∃ a x, ds = [a, x] ∧ a = dkD d ∧ ∃ s b c, x = .tup [s, b, c] ∧ ∃ i, i ≤ 1 ∧ Rb i s ∧ Rb i b ∧ Rb i c ∧ n < 700000 ∧ ∀ s' b' c' n', Rb (i + 1) s' → Rb (i + 1) b' → Rb (i + 1) c' → n' ≤ n + 10 → P (.tup [s', b', c']) n'
theorem ok__law_spoilt (T : Tx K mg) : FnK P w K mg base 5 T.f__law_spoilt T.d__law_spoilt ["_law_deck_here", "_law_plan"] (deckD dd ll) (spSp dd) := by
  refine fnk_of T.F__law_spoilt sc__law_spoilt (fun ds n P h => ?_) fun cv A out s H E W ds n Q hr h => ?_
  · obtain ⟨_, _, rfl, _⟩ := h; rfl
  obtain ⟨_, _, rfl, rfl, s0, b0, c0, rfl, i, hi, hs, hb, hc, hn, hq⟩ := h
  have lz := line_big
  refine ⟨_, (dss_cons (ds_asg (dn 1) (dg_tup (n := 3) rfl (dgs_cons (dg_name (i := 2) sc__law_spoilt.nd rfl (by first | exact .inl rfl | exact .inr rfl)) (dgs_cons (dg_name (i := 3) sc__law_spoilt.nd rfl (by first | exact .inl rfl | exact .inr rfl)) (dgs_cons (dg_name (i := 4) sc__law_spoilt.nd rfl (by first | exact .inl rfl | exact .inr rfl)) dgs_nil)))))
      (dss_cons (ds_set (i := 5) sc__law_spoilt.nd rfl (by first | exact .inl rfl | exact .inr rfl) (de_callK (ok__law_draw T) (hr.mono (by first | decide | omega)) (by rfl) T.g__law_draw T.F__law_draw.kp (bd__law_draw T) (da_cons (dn 0) (da_cons de_int da_nil))))
      (dss_cons (ds_if (dt_cmp (DOpB.op (do_eq hr.units)) (dn 5) de_int) (dss_one (ds_ret (de_tup (da_cons (de_callK (ok__law_pick T) (hr.mono (by first | decide | omega)) (by rfl) T.g__law_pick T.F__law_pick.kp (bd__law_pick T) (da_cons (dn 0) (da_cons (DO.de (do_lst (da_cons de_int (da_cons de_int (da_cons de_int (da_cons de_int (da_cons de_int (da_cons (de_neg de_int) (da_cons de_bl (da_cons de_non (da_cons de_str (da_cons (de_op do_op_pow de_int de_int) da_nil)))))))))))) da_nil))) (da_cons (dn 3) (da_cons (dn 4) da_nil)))))) dss_nil)
      (dss_cons (ds_if (dt_w (dw_and (dt_cmp (DOpB.op do_lt) (dn 5) de_int) (dw_and (dt_val (de_isi dc_isTup (by rfl) T.b_isinstance (by decide +kernel) (dn 3) (dty (T := "tuple") (by rfl) T.b_tuple (by decide +kernel)))) (dw_and1 (dt_cmp (DOpB.op (do_neNil hr.units)) (dn 3) (de_tup da_nil)))))) (dss_cons (ds_set (i := 6) sc__law_spoilt.nd rfl (by first | exact .inl rfl | exact .inr rfl) (de_callK (ok__law_draw T) (hr.mono (by first | decide | omega)) (by rfl) T.g__law_draw T.F__law_draw.kp (bd__law_draw T) (da_cons (dn 0) (da_cons (de_callB dc_len (by rfl) T.b_len (by decide +kernel) (da_cons (dn 3) da_nil)) da_nil))))
      (dss_cons (ds_if (dt_cmp (DOpB.op (do_eq hr.units)) (dn 5) de_int) (dss_one (ds_ret (de_tup (da_cons (dn 2) (da_cons (de_op do_op_add (de_op do_op_add (de_sl (dn 3) dp_none (dp_some (dn 6))) (de_back (de_sl (dn 3) (dp_some (dn 6)) (dp_some (de_op do_op_add (dn 6) de_int))))) (de_sl (dn 3) (dp_some (de_op do_op_add (dn 6) de_int)) dp_none)) (da_cons (dn 4) da_nil)))))) dss_nil)
      (dss_cons (ds_if (dt_cmp (DOpB.op (do_eq hr.units)) (dn 5) de_int) (dss_one (ds_ret (de_tup (da_cons (dn 2) (da_cons (de_op do_op_add (de_sl (dn 3) dp_none (dp_some (de_op do_op_add (dn 6) de_int))) (de_sl (dn 3) (dp_some (dn 6)) dp_none)) (da_cons (dn 4) da_nil)))))) dss_nil)
      (dss_one (ds_if (dt_w (dw_and (dt_val (de_isi dc_isTup (by rfl) T.b_isinstance (by decide +kernel) (de_ix (dn 3) (dn 6) (fun _ _ => rfl)) (dty (T := "tuple") (by rfl) T.b_tuple (by decide +kernel)))) (dw_and (dt_cmp (DOpB.op (do_eq hr.units)) (de_callB dc_len (by rfl) T.b_len (by decide +kernel) (da_cons (de_ix (dn 3) (dn 6) (fun _ _ => rfl)) da_nil)) de_int) (dw_and1 (dt_val (de_isi dc_isStr (by rfl) T.b_isinstance (by decide +kernel) (de_ix (de_ix (dn 3) (dn 6) (fun _ _ => rfl)) de_int (fun _ _ => rfl)) (dty (T := "str") (by rfl) T.b_str (by decide +kernel)))))))) (dss_one (ds_ret (de_tup (da_cons (dn 2) (da_cons (de_op do_op_add (de_op do_op_add (de_sl (dn 3) dp_none (dp_some (dn 6))) (de_tup (da_cons (de_callK (ok__law_spoilt_way T) (hr.mono (by first | decide | omega)) (by rfl) T.g__law_spoilt_way T.F__law_spoilt_way.kp (bd__law_spoilt_way T) (da_cons (dn 0) (da_cons (dn 2) (da_cons (de_ix (dn 3) (dn 6) (fun _ _ => rfl)) da_nil)))) da_nil))) (de_sl (dn 3) (dp_some (de_op do_op_add (dn 6) de_int)) dp_none)) (da_cons (dn 4) da_nil)))))) dss_nil))))) dss_nil)
      (dss_cons (ds_if (dt_cmp (DOpB.op (do_eq hr.units)) (dn 5) de_int) (dss_one (ds_ret (de_tup (da_cons (dn 2) (da_cons (de_callK (ok__law_pick T) (hr.mono (by first | decide | omega)) (by rfl) T.g__law_pick T.F__law_pick.kp (bd__law_pick T) (da_cons (dn 0) (da_cons (DO.de (do_lst (da_cons de_non (da_cons (de_tup da_nil) (da_cons (DO.de (do_callTy dc_list (by rfl) T.b_list (by decide +kernel) (da_cons (de_sl (dn 1) (dp_some de_int) (dp_some de_int)) da_nil))) (da_cons de_str (da_cons de_int (da_cons (DO.de do_emp) da_nil)))))))) da_nil))) (da_cons (dn 4) da_nil)))))) dss_nil)
      (dss_cons (ds_if (dt_w (dw_or (dt_cmp (DOpB.op (do_eq hr.units)) (dn 5) de_int) (dw_or1 (dt_not (dt_val (de_isi dc_isTup (by rfl) T.b_isinstance (by decide +kernel) (dn 4) (dty (T := "tuple") (by rfl) T.b_tuple (by decide +kernel)))))))) (dss_cons (ds_set (i := 7) sc__law_spoilt.nd rfl (by first | exact .inl rfl | exact .inr rfl) (DO.de (do_lst (da_cons de_non (da_cons (de_tup da_nil) (da_cons (DO.de (do_lst (da_cons de_int da_nil))) (da_cons (de_tup (da_cons de_int (da_cons de_int da_nil))) (da_cons (de_tup (da_cons de_int (da_cons de_int (da_cons de_int da_nil)))) (da_cons de_str (da_cons de_int (da_cons (de_tup (da_cons de_bl da_nil)) (da_cons (de_tup (da_cons (dn 2) da_nil)) (da_cons (de_tup (da_cons (de_neg de_int) da_nil)) (da_cons (de_tup (da_cons de_str da_nil)) da_nil))))))))))))))
      (dss_one (ds_ret (de_tup (da_cons (dn 2) (da_cons (dn 3) (da_cons (de_callK (ok__law_pick T) (hr.mono (by first | decide | omega)) (by rfl) T.g__law_pick T.F__law_pick.kp (bd__law_pick T) (da_cons (dn 0) (da_cons (dn 7) da_nil))) da_nil))))))) dss_nil)
      (dss_one (ds_ret (de_tup (da_cons (dn 2) (da_cons (dn 3) (da_cons (de_op do_op_add (de_back (dn 4)) (de_op do_op_mul01 (de_tup (da_cons (de_callK (ok__law_no_state T) (hr.mono (by first | decide | omega)) (by rfl) T.g__law_no_state T.F__law_no_state.kp (bd__law_no_state T) (da_cons (dn 0) (da_cons (dn 2) da_nil))) da_nil)) (de_callTy dc_int (by rfl) T.b_int (by decide +kernel) (da_cons (de_cmp (DOpB.op (do_eq hr.units)) (dn 5) de_int) da_nil)))) da_nil)))))))))))), ?_⟩
  have z7 := Sz_710 i
  have z0 := Sz_70 i
  have zs := Sz_s hi
  have us := hs.up hi
  have ub := hb.up hi
  have uc := hc.up hi
  refine seqE ⟨[some (.v (dkD dd)), some (.v (.tup [s0, b0, c0])), some (.v s0), some (.v b0), some (.v c0), none, none, none], n⟩ (fun N hN => ?_) ?_
  · ((repeat ((conv => whnf); first | refine ⟨(fun z e => by cases e), ?_⟩ | refine ⟨_, _, _, rfl, rfl, ?_⟩ | refine ⟨_, _, _, _, rfl, rfl, rfl, ?_⟩ | refine ⟨rfl, ?_⟩ | refine ⟨Nat.le_of_ble_eq_true rfl, ?_⟩ | refine ⟨by decide, ?_⟩)); (conv => whnf))
    exact hN
  refine seqS (fun S' => ∃ j : Int, S' = ⟨[some (.v (dkD dd)), some (.v (.tup [s0, b0, c0])), some (.v s0), some (.v b0), some (.v c0), some (.v (.int j)), none, none], n + 1⟩ ∧ 0 ≤ j ∧ j < 8) (fun N hN => ?_) ?_
  · conv => whnf
    refine ⟨_, rfl, by first | omega | (dsimp only; omega), by omega, by omega, fun j hj0 hj1 => ?_⟩
    exact hN _ ⟨j, rfl, hj0, hj1⟩
  rintro _ ⟨j, rfl, hj0, hj1⟩
  refine seqE ⟨[some (.v (dkD dd)), some (.v (.tup [s0, b0, c0])), some (.v s0), some (.v b0), some (.v c0), some (.v (.int j)), none, none], n + 1⟩ (fun N hN => ?_) ?_
  · conv => whnf
    refine onT_of (b := decide (j = 0)) (fun h => ?_) (fun h => ?_)
    · conv => whnf
      refine ⟨⟨by decide, by decide, by decide⟩, ?_⟩
      conv => whnf
      refine ⟨by show 10 ≤ sizeLine; omega, ?_⟩
      conv => whnf
      refine ⟨_, _, rfl, rfl, _, rfl, by show 1 ≤ 10; decide, by show 10 ≤ 1000; decide, by first | omega | (dsimp only; omega), fun y hy => ?_⟩
      have hy : smB y = true := by
        simp only [List.mem_cons, List.not_mem_nil, or_false] at hy
        rcases hy with rfl | rfl | rfl | rfl | rfl | rfl | rfl | rfl | rfl | rfl <;> decide +kernel
      ((repeat ((conv => whnf); first | refine ⟨(fun z e => by cases e), ?_⟩ | refine ⟨_, _, _, rfl, rfl, ?_⟩ | refine ⟨_, _, _, _, rfl, rfl, rfl, ?_⟩ | refine ⟨rfl, ?_⟩ | refine ⟨Nat.le_of_ble_eq_true rfl, ?_⟩ | refine ⟨by decide, ?_⟩)); (conv => whnf))
      exact hq y b0 c0 _ (sm_of hy) ub uc (by first | omega | (dsimp only; omega))
    · exact hN
  refine seqS (fun S' => ∃ (v6 : Option Sl) (n2 : Int), S' = ⟨[some (.v (dkD dd)), some (.v (.tup [s0, b0, c0])), some (.v s0), some (.v b0), some (.v c0), some (.v (.int j)), v6, none], n2⟩ ∧ n2 ≤ n + 8) (fun N hN => ?_) ?_
  · conv => whnf
    refine onT_of (fun h => ?_) (fun h => ?_)
    · have skip : ∀ (b : D), (∀ ws, b ≠ .tup ws) → b = b0 → N ⟨[some (.v (dkD dd)), some (.v (.tup [s0, b0, c0])), some (.v s0), some (.v b0), some (.v c0), some (.v (.int j)), none, none], n + 1⟩ := fun _ _ _ => hN _ ⟨_, _, rfl, by first | omega | (dsimp only; omega)⟩
      cases b0 with
      | tup ws =>
        cases ws with
        | nil =>
          conv => whnf
          refine ⟨Nat.zero_le _, ?_⟩
          exact hN _ ⟨_, _, rfl, by first | omega | (dsimp only; omega)⟩
        | cons w0 ws0 =>
          generalize hws : w0 :: ws0 = ws at *
          have hne : 1 ≤ ws.length := by rw [← hws]; simp
          have elne : (!ws.isEmpty) = true := by rw [← hws]; rfl
          have hall := (anyVs_all ws).mp hb.a
          have hwd := (wdt_tup.mp hb.w)
          have hdp : depS ws + 1 ≤ 3 + 2 * i := hb.d
          have hde : ∀ d ∈ ws, dep d ≤ 2 + 2 * i := depS_le.mp (by omega)
          have hsz : sizS ws + 1 ≤ Sz i := hb.s
          have mem : ∀ d ∈ ws, anyV 1 d = true ∧ dep d ≤ 4 + 2 * i ∧ wdt (16 + i) d = true := fun d hd => ⟨hall d hd, by have := hde d hd; omega, hwd.2 d hd⟩
          have hlw := hwd.1
          conv => whnf
          refine ⟨Nat.zero_le _, ?_⟩
          conv => whnf
          refine onT_t (b := !ws.isEmpty) elne ?_
          conv => whnf
          refine ⟨_, rfl, by first | omega | (dsimp only; omega), by first | omega | (dsimp only; omega), by first | omega | (dsimp only; omega), fun a ha0 ha1 => ?_⟩
          obtain ⟨i2, rfl⟩ : ∃ i : Nat, a = (i : Int) := ⟨a.toNat, by omega⟩
          have hi2 : i2 < ws.length := by omega
          have e1 : (i2 : Int) + 1 = ((i2 + 1 : Nat) : Int) := by omega
          have e2 : (i2 : Int) + 2 = ((i2 + 2 : Nat) : Int) := by omega
          have c1 : Dl.cutD ws none (some (i2 : Int)) = ws.take i2 := cut_take ws i2
          have c2 : Dl.cutD ws (some ((i2 : Int) + 1)) none = ws.drop (i2 + 1) := by rw [e1]; exact cut_drop ws (i2 + 1)
          have c3 : Dl.cutD ws none (some ((i2 : Int) + 1)) = ws.take (i2 + 1) := by rw [e1]; exact cut_take ws (i2 + 1)
          have c4 : Dl.cutD ws (some (i2 : Int)) none = ws.drop i2 := cut_drop ws i2
          have c5 : Dl.cutD ws (some ((i2 : Int) + 2)) none = ws.drop (i2 + 2) := by rw [e2]; exact cut_drop ws (i2 + 2)
          have c6 : Dl.cutD ws (some (i2 : Int)) (some ((i2 : Int) + 2)) = (ws.drop i2).take 2 := cut_mid ws hi2
          have y1 := sizS_at hi2
          have y2 := sizS_cut ws (i2 + 1)
          have y3 := sizS_cut ws i2
          have y4 : sizS ((ws.drop i2).take 2) + sizS (ws.drop (i2 + 2)) = sizS (ws.drop i2) := by rw [← sizS_app, drop_two]
          have l4 : ((ws.drop i2).take 2).length + (ws.drop (i2 + 2)).length = ws.length - i2 := by rw [← List.length_append, drop_two, List.length_drop]
          have mt : ∀ n, ∀ r ∈ ws.take n, r ∈ ws := fun n r h => List.mem_of_mem_take h
          have md : ∀ n, ∀ r ∈ ws.drop n, r ∈ ws := fun n r h => List.mem_of_mem_drop h
          have fin : ∀ rs : List D, (∀ r ∈ rs, r ∈ ws) → sizS rs + 1 ≤ 3 * Sz i + 20 → rs.length ≤ ws.length + 1 → Rb (i + 1) (.tup rs) := fun rs h1 h2 h3 => rb_tup hi (fun d hd => mem d (h1 d hd)) h2 (by omega)
          have eix : ixD (.tup ws) (.int (i2 : Int)) = some ws[i2] := atI_nat (List.getElem?_eq_getElem hi2)
          have hmem : ws[i2] ∈ ws := List.getElem_mem _
          conv => whnf
          refine onT_of (b := decide (j = 1)) (fun h1 => ?_) (fun h1 => ?_)
          · conv => whnf
            rw [c1, c6]
            refine ⟨by rw [List.length_take, List.length_reverse]; omega, ?_⟩
            conv => whnf
            rw [c5]
            refine ⟨by rw [List.length_append, List.length_take, List.length_reverse]; omega, ?_⟩
            ((repeat ((conv => whnf); first | refine ⟨(fun z e => by cases e), ?_⟩ | refine ⟨_, _, _, rfl, rfl, ?_⟩ | refine ⟨_, _, _, _, rfl, rfl, rfl, ?_⟩ | refine ⟨rfl, ?_⟩ | refine ⟨Nat.le_of_ble_eq_true rfl, ?_⟩ | refine ⟨by decide, ?_⟩)); (conv => whnf))
            refine hq s0 _ c0 _ us (fin _ (fun r hr => ?_) ?_ ?_) uc (by first | omega | (dsimp only; omega))
            · rcases List.mem_append.mp hr with hr | hr
              · rcases List.mem_append.mp hr with hr | hr
                · exact mt _ r hr
                · exact md _ r (List.mem_of_mem_take (List.mem_reverse.mp hr))
              · exact md _ r hr
            · rw [sizS_app, sizS_app, sizS_rev]; omega
            · rw [List.length_append, List.length_append, List.length_take, List.length_reverse]; omega
          conv => whnf
          refine onT_of (b := decide (j = 2)) (fun h2 => ?_) (fun h2 => ?_)
          · conv => whnf
            rw [c3, c4]
            refine ⟨by rw [List.length_take, List.length_drop]; omega, ?_⟩
            ((repeat ((conv => whnf); first | refine ⟨(fun z e => by cases e), ?_⟩ | refine ⟨_, _, _, rfl, rfl, ?_⟩ | refine ⟨_, _, _, _, rfl, rfl, rfl, ?_⟩ | refine ⟨rfl, ?_⟩ | refine ⟨Nat.le_of_ble_eq_true rfl, ?_⟩ | refine ⟨by decide, ?_⟩)); (conv => whnf))
            refine hq s0 _ c0 _ us (fin _ (fun r hr => ?_) ?_ ?_) uc (by first | omega | (dsimp only; omega))
            · exact (List.mem_append.mp hr).elim (mt _ r) (md _ r)
            · rw [sizS_app]
              have := siz_pos ws[i2]
              omega
            · rw [List.length_append, List.length_take, List.length_drop]; omega
          conv => whnf
          refine ⟨(fun z e => by cases e), ?_⟩
          rw [eix]
          have hwx : anyV 1 ws[i2] = true ∧ dep ws[i2] ≤ 2 + 2 * i ∧ wdt (16 + i) ws[i2] = true := ⟨hall _ hmem, hde _ hmem, hwd.2 _ hmem⟩
          have hsx : siz ws[i2] + 1 ≤ Sz i := by have := sizS_mem hmem; omega
          generalize hx : ws[i2] = x at *
          have nx : N ⟨[some (.v (dkD dd)), some (.v (.tup [s0, .tup ws, c0])), some (.v s0), some (.v (.tup ws)), some (.v c0), some (.v (.int j)), some (.v (.int (i2 : Int))), none], n + 1 + 1⟩ := hN _ ⟨_, _, rfl, by first | omega | (dsimp only; omega)⟩
          cases x with
          | ins _ _ _ => cases hwx.1
          | «at» _ => cases hwx.1
          | tup es =>
            conv => whnf
            refine ⟨(fun z e => by cases e), ?_⟩
            rw [eix]
            conv => whnf
            refine onT_of (b := decide ((es.length : Int) = 3)) (fun h3 => ?_) (fun _ => nx)
            obtain ⟨u, y, v, rfl⟩ : ∃ u y v, es = [u, y, v] := by
              have h3 := of_decide_eq_true h3
              match es, h3 with
              | [u, y, v], _ => exact ⟨u, y, v, rfl⟩
            conv => whnf
            refine ⟨(fun z e => by cases e), ?_⟩
            rw [eix]
            conv => whnf
            refine ⟨(fun z e => by cases e), ?_⟩
            rw [show ixD (.tup [u, y, v]) (.int 1) = some y from atI_nat (j := 1) rfl]
            cases y with
            | ins _ _ _ =>
              have := (anyVs_all [u, _, v]).mp hwx.1 _ (List.mem_cons_of_mem _ (List.mem_cons_self ..))
              cases this
            | «at» _ =>
              have := (anyVs_all [u, _, v]).mp hwx.1 _ (List.mem_cons_of_mem _ (List.mem_cons_self ..))
              cases this
            | str z =>
              conv => whnf
              refine ⟨(fun z e => by cases e), ?_⟩
              rw [eix]
              conv => whnf
              refine ⟨_, _, _, rfl, rfl, u, z, v, rfl, i, hi, hs, ⟨hwx.1, by have := hwx.2.1; omega, by omega, hwx.2.2⟩, by first | omega | (dsimp only; omega), fun y dr' hy hdr' => ?_⟩
              have hdr' : dr' ≤ n + 1 + 1 + 5 := hdr'
              conv => whnf
              refine ⟨by show 1 ≤ sizeLine; omega, ?_⟩
              conv => whnf
              rw [c1]
              refine ⟨by rw [List.length_take]; show _ + 1 ≤ _; omega, ?_⟩
              conv => whnf
              rw [c2]
              refine ⟨by rw [List.length_append, List.length_take, List.length_drop]; show _ + 1 + _ ≤ _; omega, ?_⟩
              ((repeat ((conv => whnf); first | refine ⟨(fun z e => by cases e), ?_⟩ | refine ⟨_, _, _, rfl, rfl, ?_⟩ | refine ⟨_, _, _, _, rfl, rfl, rfl, ?_⟩ | refine ⟨rfl, ?_⟩ | refine ⟨Nat.le_of_ble_eq_true rfl, ?_⟩ | refine ⟨by decide, ?_⟩)); (conv => whnf))
              refine hq s0 _ c0 _ us (rb_tup hi (fun d hd => ?_) ?_ ?_) uc (by first | omega | (dsimp only; omega))
              · rcases List.mem_append.mp hd with hd | hd
                · rcases List.mem_append.mp hd with hd | hd
                  · exact mem d (mt _ d hd)
                  · rw [List.mem_singleton.mp hd]
                    exact ⟨hy.a, hy.d, hy.w⟩
                · exact mem d (md _ d hd)
              · have := hy.s
                rw [sizS_app, sizS_app, sizS, sizS]; omega
              · rw [List.length_append, List.length_append, List.length_take, List.length_drop]; show _ + 1 + _ ≤ _; omega
            | _ => exact nx
          | _ => exact nx
      | ins _ _ _ => cases hb.a
      | «at» _ => cases hb.a
      | _ => exact hN _ ⟨_, _, rfl, by first | omega | (dsimp only; omega)⟩
    · exact hN _ ⟨_, _, rfl, by first | omega | (dsimp only; omega)⟩
  rintro _ ⟨v6, n2, rfl, hn2⟩
  refine seqE ⟨[some (.v (dkD dd)), some (.v (.tup [s0, b0, c0])), some (.v s0), some (.v b0), some (.v c0), some (.v (.int j)), v6, none], n2⟩ (fun N hN => ?_) ?_
  · conv => whnf
    refine onT_of (b := decide (j = 4)) (fun h => ?_) (fun h => ?_)
    · ((repeat ((conv => whnf); first | refine ⟨(fun z e => by cases e), ?_⟩ | refine ⟨_, _, _, rfl, rfl, ?_⟩ | refine ⟨_, _, _, _, rfl, rfl, rfl, ?_⟩ | refine ⟨rfl, ?_⟩ | refine ⟨Nat.le_of_ble_eq_true rfl, ?_⟩ | refine ⟨by decide, ?_⟩)); (conv => whnf))
      refine ⟨_, _, rfl, rfl, _, rfl, by show 1 ≤ 6; decide, by show 6 ≤ 1000; decide, by first | omega | (dsimp only; omega), fun y hy => ?_⟩
      have hy : Rb (i + 1) y := by
        have ec : Dl.cutD [s0, b0, c0] (some 1) (some 2) = [b0] := rfl
        rw [ec] at hy
        simp only [List.mem_cons, List.not_mem_nil, or_false] at hy
        rcases hy with rfl | rfl | rfl | rfl | rfl | rfl
        · exact sm_of (by decide +kernel)
        · exact sm_of (by decide +kernel)
        · refine rb_lst hi (fun d hd => ?_) (by have := hb.s; show siz b0 + 0 + 1 ≤ _; omega) (by show 1 ≤ _; omega)
          rw [List.mem_singleton.mp hd]
          exact ⟨hb.a, by have := hb.d; omega, hb.w⟩
        · exact sm_of (by decide +kernel)
        · exact sm_of (by decide +kernel)
        · exact sm_of (by decide +kernel)
      ((repeat ((conv => whnf); first | refine ⟨(fun z e => by cases e), ?_⟩ | refine ⟨_, _, _, rfl, rfl, ?_⟩ | refine ⟨_, _, _, _, rfl, rfl, rfl, ?_⟩ | refine ⟨rfl, ?_⟩ | refine ⟨Nat.le_of_ble_eq_true rfl, ?_⟩ | refine ⟨by decide, ?_⟩)); (conv => whnf))
      exact hq s0 y c0 _ us hy uc (by first | omega | (dsimp only; omega))
    · exact hN
  have pickG : ∀ y : D, y ∈ [D.non, .tup [], .lst [.int 0], .tup [.int 0, .int 0], .tup [.int 0, .int 1, .int 0], .str "0", .int 0, .tup [.bl true], .tup [s0], .tup [.int (-1)], .tup [.str "0"]] → Rb (i + 1) y := fun y hy => by
    simp only [List.mem_cons, List.not_mem_nil, or_false] at hy
    rcases hy with rfl | rfl | rfl | rfl | rfl | rfl | rfl | rfl | rfl | rfl | rfl
    all_goals first
      | exact sm_of (by decide +kernel)
      | skip
    refine rb_tup hi (fun d hd => ?_) (by have := hs.s; show siz s0 + 0 + 1 ≤ _; omega) (by show 1 ≤ _; omega)
    rw [List.mem_singleton.mp hd]
    exact ⟨hs.a, by have := hs.d; omega, hs.w⟩
  refine seqS (fun S' => ∃ cs, c0 = .tup cs ∧ S' = ⟨[some (.v (dkD dd)), some (.v (.tup [s0, b0, c0])), some (.v s0), some (.v b0), some (.v c0), some (.v (.int j)), v6, none], n2⟩) (fun N hN => ?_) ?_
  · conv => whnf
    refine onT_of (b := decide (j = 5)) (fun h => ?_) (fun h => ?_)
    · ((repeat ((conv => whnf); first | refine ⟨(fun z e => by cases e), ?_⟩ | refine ⟨_, _, _, rfl, rfl, ?_⟩ | refine ⟨_, _, _, _, rfl, rfl, rfl, ?_⟩ | refine ⟨rfl, ?_⟩ | refine ⟨Nat.le_of_ble_eq_true rfl, ?_⟩ | refine ⟨by decide, ?_⟩)); (conv => whnf))
      refine ⟨_, _, rfl, rfl, _, rfl, by show 1 ≤ 11; decide, by show 11 ≤ 1000; decide, by first | omega | (dsimp only; omega), fun y hy => ?_⟩
      have hy := pickG y hy
      ((repeat ((conv => whnf); first | refine ⟨(fun z e => by cases e), ?_⟩ | refine ⟨_, _, _, rfl, rfl, ?_⟩ | refine ⟨_, _, _, _, rfl, rfl, rfl, ?_⟩ | refine ⟨rfl, ?_⟩ | refine ⟨Nat.le_of_ble_eq_true rfl, ?_⟩ | refine ⟨by decide, ?_⟩)); (conv => whnf))
      exact hq s0 b0 y _ us ub hy (by first | omega | (dsimp only; omega))
    · cases c0 with
      | tup cs => exact hN _ ⟨cs, rfl, rfl⟩
      | ins _ _ _ => cases hc.a
      | «at» _ => cases hc.a
      | _ =>
        ((repeat ((conv => whnf); first | refine ⟨(fun z e => by cases e), ?_⟩ | refine ⟨_, _, _, rfl, rfl, ?_⟩ | refine ⟨_, _, _, _, rfl, rfl, rfl, ?_⟩ | refine ⟨rfl, ?_⟩ | refine ⟨Nat.le_of_ble_eq_true rfl, ?_⟩ | refine ⟨by decide, ?_⟩)); (conv => whnf))
        refine ⟨_, _, rfl, rfl, _, rfl, by show 1 ≤ 11; decide, by show 11 ≤ 1000; decide, by first | omega | (dsimp only; omega), fun y hy => ?_⟩
        have hy := pickG y hy
        ((repeat ((conv => whnf); first | refine ⟨(fun z e => by cases e), ?_⟩ | refine ⟨_, _, _, rfl, rfl, ?_⟩ | refine ⟨_, _, _, _, rfl, rfl, rfl, ?_⟩ | refine ⟨rfl, ?_⟩ | refine ⟨Nat.le_of_ble_eq_true rfl, ?_⟩ | refine ⟨by decide, ?_⟩)); (conv => whnf))
        exact hq s0 b0 y _ us ub hy (by first | omega | (dsimp only; omega))
  rintro _ ⟨cs, rfl, rfl⟩
  ((repeat ((conv => whnf); first | refine ⟨(fun z e => by cases e), ?_⟩ | refine ⟨_, _, _, rfl, rfl, ?_⟩ | refine ⟨_, _, _, _, rfl, rfl, rfl, ?_⟩ | refine ⟨rfl, ?_⟩ | refine ⟨Nat.le_of_ble_eq_true rfl, ?_⟩ | refine ⟨by decide, ?_⟩)); (conv => whnf))
  refine ⟨_, _, rfl, rfl, by first | omega | (dsimp only; omega), fun y hy => ?_⟩
  have ry : Rb i y := by
    rcases hy with rfl | h
    · exact hs
    · exact sm_of h
  have hall := (anyVs_all cs).mp hc.a
  have hwd := (wdt_tup.mp hc.w)
  have hdp : depS cs + 1 ≤ 3 + 2 * i := hc.d
  have hde : ∀ d ∈ cs, dep d ≤ 2 + 2 * i := depS_le.mp (by omega)
  have hsz : sizS cs + 1 ≤ Sz i := hc.s
  have hcl := hwd.1
  have fin : ∀ r : List D, (r = [y] ∨ r = []) → Rb (i + 1) (.tup (cs.reverse ++ r)) := fun r hr => by
    refine rb_tup hi (fun d hd => ?_) ?_ ?_
    · rcases List.mem_append.mp hd with hd | hd
      · have hd := List.mem_reverse.mp hd
        exact ⟨hall d hd, by have := hde d hd; omega, hwd.2 d hd⟩
      · rcases hr with rfl | rfl
        · rw [List.mem_singleton.mp hd]
          exact ⟨ry.a, by have := ry.d; omega, ry.w⟩
        · cases hd
    · rw [sizS_app, sizS_rev]
      have := ry.s
      rcases hr with rfl | rfl
      · rw [sizS, sizS]; omega
      · rw [sizS]; omega
    · rw [List.length_append, List.length_reverse]
      rcases hr with rfl | rfl
      · show _ + 1 ≤ _; omega
      · show _ + 0 ≤ _; omega
  ((repeat ((conv => whnf); first | refine ⟨(fun z e => by cases e), ?_⟩ | refine ⟨_, _, _, rfl, rfl, ?_⟩ | refine ⟨_, _, _, _, rfl, rfl, rfl, ?_⟩ | refine ⟨rfl, ?_⟩ | refine ⟨Nat.le_of_ble_eq_true rfl, ?_⟩ | refine ⟨by decide, ?_⟩)); (conv => whnf))
  refine ⟨by simp, ?_⟩
  by_cases h6 : j = 6
  · refine .inl ⟨by rw [id, decide_eq_true h6]; rfl, ?_⟩
    ((repeat ((conv => whnf); first | refine ⟨(fun z e => by cases e), ?_⟩ | refine ⟨_, _, _, rfl, rfl, ?_⟩ | refine ⟨_, _, _, _, rfl, rfl, rfl, ?_⟩ | refine ⟨rfl, ?_⟩ | refine ⟨Nat.le_of_ble_eq_true rfl, ?_⟩ | refine ⟨by decide, ?_⟩)); (conv => whnf))
    refine ⟨by rw [List.length_reverse]; show _ + 1 ≤ _; omega, ?_⟩
    ((repeat ((conv => whnf); first | refine ⟨(fun z e => by cases e), ?_⟩ | refine ⟨_, _, _, rfl, rfl, ?_⟩ | refine ⟨_, _, _, _, rfl, rfl, rfl, ?_⟩ | refine ⟨rfl, ?_⟩ | refine ⟨Nat.le_of_ble_eq_true rfl, ?_⟩ | refine ⟨by decide, ?_⟩)); (conv => whnf))
    exact hq s0 b0 _ _ us ub (fin [y] (.inl rfl)) (by first | omega | (dsimp only; omega))
  · refine .inr ⟨by rw [id, decide_eq_false h6]; rfl, ?_⟩
    ((repeat ((conv => whnf); first | refine ⟨(fun z e => by cases e), ?_⟩ | refine ⟨_, _, _, rfl, rfl, ?_⟩ | refine ⟨_, _, _, _, rfl, rfl, rfl, ?_⟩ | refine ⟨rfl, ?_⟩ | refine ⟨Nat.le_of_ble_eq_true rfl, ?_⟩ | refine ⟨by decide, ?_⟩)); (conv => whnf))
    refine ⟨by rw [List.length_reverse]; show _ + 0 ≤ _; omega, ?_⟩
    ((repeat ((conv => whnf); first | refine ⟨(fun z e => by cases e), ?_⟩ | refine ⟨_, _, _, rfl, rfl, ?_⟩ | refine ⟨_, _, _, _, rfl, rfl, rfl, ?_⟩ | refine ⟨rfl, ?_⟩ | refine ⟨Nat.le_of_ble_eq_true rfl, ?_⟩ | refine ⟨by decide, ?_⟩)); (conv => whnf))
    exact hq s0 b0 _ _ us ub (fin [] (.inr rfl)) (by first | omega | (dsimp only; omega))
end
end K01
namespace K01
open PySem PySem.Spec PyProof.Rows L2 L2H Sw Dl Ss
theorem Rb.vk {i : Nat} {x : D} (h : Rb i x) : Vk x := ⟨⟨1, h.a⟩, by have := h.s; have := Sz_710 i; omega⟩
theorem int_dec (z : Str) : decide (((z.length : Nat) : Int) = 1) = decide (z.length = 1) := by rw [decide_eq_decide]; omega
section
variable {P : Program} {w : World} {K : PySem.W.Frag} {mg : Str → Option Value} {base : Heap} {k : Dek}
def spIn : DSp := fun ds n P => ∃ d e, ds = [d, e] ∧ ∃ m, e = .int m ∧ plain d = true ∧ P (.bl (isIdx m d)) n
theorem ok__law_is_in (T : Tx K mg) : FnK P w K mg base 1 T.f__law_is_in T.d__law_is_in ["_law_it", "_law_below"] k spIn := by
  refine fnk_of T.F__law_is_in sc__law_is_in (fun ds n P h => ?_) fun cv A out s H E W ds n Q hr h => ?_
  · obtain ⟨_, _, rfl, _⟩ := h; rfl
  obtain ⟨x0, x1, rfl, h⟩ := h
  refine ⟨_, (dss_one (ds_ret (de_and (de_isi dc_isInt (by rfl) T.b_isinstance (by decide +kernel) (dn 0) (dty (T := "int") (by rfl) T.b_int (by decide +kernel))) (de_and (de_not (de_isi dc_isBool (by rfl) T.b_isinstance (by decide +kernel) (dn 0) (dty (T := "bool") (by rfl) T.b_bool (by decide +kernel)))) (de_one (de_chain do_le do_lt de_int (dn 0) (dn 1))))))), ?_⟩
  dsimp only [dRet, dBack, dJoin, dRetN, dSeq, dNext, dIfS, dAnd, dOr, dNot, dIf, dBool, dNotT, dAndT, dOrT, dBin, dChain, dCall, dCB, dCons, dNil, dTup, dLst, dVar, dC, dAsg, gN, gsNil, gsCons, gT, dSetO, dFor, dIAny, dIR1, dIR2, dIZip, dIEnum, dIRev, dLc, dYes, dDrop, dPar, dWhile, ownL, putO, dAppend, dExtend, dPop, dIxO, dLenO, dIx, dIsiE, dSl, dNoP, dP, dNeg, getS, setS, startD, wipeD, back, List.map]
  obtain ⟨m, rfl, hp, h⟩ := h
  cases x0 with
  | int i => exact onB_and (a := decide (0 ≤ i)) h
  | ins _ _ _ => exact absurd hp Bool.false_ne_true
  | «at» _ => exact absurd hp Bool.false_ne_true
  | _ => exact h
def spWayL : DSp := fun ds n P => ∃ d e, ds = [d, e] ∧ ∃ m, e = .int m ∧ Vk d ∧ P (.bl (isMove m d)) n
theorem ok__law_is_way (T : Tx K mg) : FnK P w K mg base 2 T.f__law_is_way T.d__law_is_way ["_law_it", "_law_count"] k spWayL := by
  refine fnk_of T.F__law_is_way sc__law_is_way (fun ds n P h => ?_) fun cv A out s H E W ds n Q hr h => ?_
  · obtain ⟨_, _, rfl, _⟩ := h; rfl
  obtain ⟨x, _, rfl, m, rfl, hd, hq⟩ := h
  refine ⟨_, (dss_cons (ds_if (dt_w (dw_or (dt_not (dt_val (de_isi dc_isTup (by rfl) T.b_isinstance (by decide +kernel) (dn 0) (dty (T := "tuple") (by rfl) T.b_tuple (by decide +kernel))))) (dw_or (dt_cmp (DOpB.op (do_ne hr.units)) (de_callB dc_len (by rfl) T.b_len (by decide +kernel) (da_cons (dn 0) da_nil)) de_int) (dw_or (dt_not (dt_val (de_isi dc_isStr (by rfl) T.b_isinstance (by decide +kernel) (de_ix (dn 0) de_int (fun _ _ => rfl)) (dty (T := "str") (by rfl) T.b_str (by decide +kernel))))) (dw_or1 (dt_cmp (DOpB.op (do_ne hr.units)) (de_callB dc_len (by rfl) T.b_len (by decide +kernel) (da_cons (de_ix (dn 0) de_int (fun _ _ => rfl)) da_nil)) de_int)))))) (dss_one (ds_ret de_bl)) dss_nil)
      (dss_one (ds_ret (de_and (de_chain do_le do_le de_str (de_ix (dn 0) de_int (fun _ _ => rfl)) de_str) (de_and (de_callK (ok__law_is_in T) (hr.mono (by first | decide | omega)) (by rfl) T.g__law_is_in T.F__law_is_in.kp (bd__law_is_in T) (da_cons (de_ix (dn 0) de_int (fun _ _ => rfl)) (da_cons (dn 1) da_nil))) (de_one (de_callK (ok__law_is_in T) (hr.mono (by first | decide | omega)) (by rfl) T.g__law_is_in T.F__law_is_in.kp (bd__law_is_in T) (da_cons (de_ix (dn 0) de_int (fun _ _ => rfl)) (da_cons (dn 1) da_nil))))))))), ?_⟩
  have lz := line_big
  match x, hd, hq with
  | .tup ds, hd, hq =>
    ((repeat ((conv => whnf); first | refine ⟨(fun z e => by cases e), ?_⟩ | refine ⟨_, _, _, rfl, rfl, ?_⟩ | refine ⟨_, _, _, _, rfl, rfl, rfl, ?_⟩ | refine ⟨rfl, ?_⟩ | refine ⟨Nat.le_of_ble_eq_true rfl, ?_⟩ | refine ⟨by decide, ?_⟩)); (conv => whnf))
    refine onT_of (b := !decide ((ds.length : Int) = 3)) (fun h => ?_) (fun h => ?_)
    · have e : isMove m (.tup ds) = false := by
        match ds, h with
        | [], _ => rfl
        | [_], _ => rfl
        | [_, _], _ => rfl
        | _ :: _ :: _ :: _ :: _, _ => rfl
        | [_, _, _], h => cases h
      rw [e] at hq
      ((repeat ((conv => whnf); first | refine ⟨(fun z e => by cases e), ?_⟩ | refine ⟨_, _, _, rfl, rfl, ?_⟩ | refine ⟨_, _, _, _, rfl, rfl, rfl, ?_⟩ | refine ⟨rfl, ?_⟩ | refine ⟨Nat.le_of_ble_eq_true rfl, ?_⟩ | refine ⟨by decide, ?_⟩)); (conv => whnf))
      exact hq
    obtain ⟨a, b, c, rfl⟩ : ∃ a b c, ds = [a, b, c] := by
      have h : (!decide ((ds.length : Int) = 3)) = false := h
      rw [Bool.not_eq_false', decide_eq_true_eq] at h
      match ds, h with
      | [a, b, c], _ => exact ⟨a, b, c, rfl⟩
    obtain ⟨_, hi⟩ := hd.tup
    have e : isMove m (.tup [a, b, c]) = (isIdx m a && (isLet b && isIdx m c)) := rfl
    have i1 : ixD (.tup [a, b, c]) (.int 1) = some b := atI_nat (j := 1) rfl
    have i0 : ixD (.tup [a, b, c]) (.int 0) = some a := atI_nat (j := 0) rfl
    have i2 : ixD (.tup [a, b, c]) (.int 2) = some c := atI_nat (j := 2) rfl
    rw [e] at hq
    conv => whnf
    refine ⟨(fun z e => by cases e), ?_⟩
    rw [i1]
    have hb := hi b (by simp)
    have ha := (hi a (by simp)).pl
    have hc := (hi c (by simp)).pl
    cases b with
    | str z =>
      have hz := hb.str
      conv => whnf
      refine ⟨(fun z e => by cases e), ?_⟩
      rw [i1]
      conv => whnf
      refine ⟨by omega, ?_⟩
      conv => whnf
      refine onT_of (b := !decide (((z.length : Nat) : Int) = 1)) (fun h => ?_) (fun h => ?_)
      · have h : z.length ≠ 1 := by
          intro e
          rw [e] at h
          exact absurd h (by decide)
        have e : isLet (.str z) = false := by
          show (decide (z.length = 1) && _) = false
          rw [decide_eq_false h, Bool.false_and]
        rw [e, Bool.false_and, Bool.and_false] at hq
        ((repeat ((conv => whnf); first | refine ⟨(fun z e => by cases e), ?_⟩ | refine ⟨_, _, _, rfl, rfl, ?_⟩ | refine ⟨_, _, _, _, rfl, rfl, rfl, ?_⟩ | refine ⟨rfl, ?_⟩ | refine ⟨Nat.le_of_ble_eq_true rfl, ?_⟩ | refine ⟨by decide, ?_⟩)); (conv => whnf))
        exact hq
      · obtain ⟨x, rfl⟩ := one_sign (z := z) (by
          rw [Bool.not_eq_false', decide_eq_true_eq] at h
          omega)
        have e : isLet (.str ⟨#[x]⟩) = az x := let_c
        rw [e, ← chain_az] at hq
        conv => whnf
        refine ⟨(fun z e => by cases e), ?_⟩
        rw [i1]
        conv => whnf
        cases h1 : (!strLt ⟨#[x]⟩ "a") with
        | false =>
          rw [h1, Bool.false_and, Bool.false_and, Bool.and_false] at hq
          refine onB_f (b := !strLt ⟨#[x]⟩ "a") h1 ?_
          ((repeat ((conv => whnf); first | refine ⟨(fun z e => by cases e), ?_⟩ | refine ⟨_, _, _, rfl, rfl, ?_⟩ | refine ⟨_, _, _, _, rfl, rfl, rfl, ?_⟩ | refine ⟨rfl, ?_⟩ | refine ⟨Nat.le_of_ble_eq_true rfl, ?_⟩ | refine ⟨by decide, ?_⟩)); (conv => whnf))
          exact hq
        | true =>
          rw [h1, Bool.true_and] at hq
          refine onB_t (b := !strLt ⟨#[x]⟩ "a") h1 ?_
          conv => whnf
          cases h2 : (!strLt "z" ⟨#[x]⟩) with
          | false =>
            rw [h2, Bool.false_and, Bool.and_false] at hq
            refine onB_f (b := !strLt "z" ⟨#[x]⟩) h2 ?_
            ((repeat ((conv => whnf); first | refine ⟨(fun z e => by cases e), ?_⟩ | refine ⟨_, _, _, rfl, rfl, ?_⟩ | refine ⟨_, _, _, _, rfl, rfl, rfl, ?_⟩ | refine ⟨rfl, ?_⟩ | refine ⟨Nat.le_of_ble_eq_true rfl, ?_⟩ | refine ⟨by decide, ?_⟩)); (conv => whnf))
            exact hq
          | true =>
            rw [h2, Bool.true_and] at hq
            refine onB_t (b := !strLt "z" ⟨#[x]⟩) h2 ?_
            conv => whnf
            refine ⟨(fun z e => by cases e), ?_⟩
            rw [i0]
            conv => whnf
            refine ⟨_, _, rfl, m, rfl, ha, ?_⟩
            cases h3 : isIdx m a with
            | false =>
              rw [h3, Bool.false_and] at hq
              ((repeat ((conv => whnf); first | refine ⟨(fun z e => by cases e), ?_⟩ | refine ⟨_, _, _, rfl, rfl, ?_⟩ | refine ⟨_, _, _, _, rfl, rfl, rfl, ?_⟩ | refine ⟨rfl, ?_⟩ | refine ⟨Nat.le_of_ble_eq_true rfl, ?_⟩ | refine ⟨by decide, ?_⟩)); (conv => whnf))
              exact hq
            | true =>
              rw [h3, Bool.true_and] at hq
              conv => whnf
              refine ⟨(fun z e => by cases e), ?_⟩
              rw [i2]
              conv => whnf
              exact ⟨_, _, rfl, m, rfl, hc, hq⟩
    | ins _ _ _ => exact absurd hb.pl Bool.false_ne_true
    | «at» _ => exact absurd hb.pl Bool.false_ne_true
    | _ =>
      rw [show isLet _ = false from rfl, Bool.false_and, Bool.and_false] at hq
      exact hq
  | .non, hd, hq => exact hq
  | .bl _, hd, hq => exact hq
  | .int _, hd, hq => exact hq
  | .str _, hd, hq => exact hq
  | .lst _, hd, hq => exact hq
  | .dk _ _, hd, hq => exact hq
  | .dt _ _, hd, hq => exact hq
  | .ins _ _ _, hd, hq => exact absurd hd.pl Bool.false_ne_true
  | .at _, hd, hq => exact absurd hd.pl Bool.false_ne_true
end
end K01
namespace K01
open PySem PySem.Spec PyProof.Rows L2 L2H Sw Dl Ss
/-- the three parts of a plan, any values -/
structure Lot (s v e : D) : Prop where
  vs : Vk s
  vv : Vk v
  ve : Vk e
  wv : ∀ es, v = D.tup es → es.length ≤ 900
  we : ∀ es, e = D.tup es → es.length ≤ 900
theorem dueF_at {m : Int} {v e : D} (h : 1 ≤ m ∧ m ≤ 999) : dueF (.int m) v e = (match wrongV m v with
    | d :: _ => [d]
    | [] => if isEnds m e then [] else [.str "ends"]) := if_pos h
structure Gd (a b : Nat) (d : D) : Prop where
  p : pureD d = true
  o : okD (toPy d) = true
  dp : (toPy d).depth ≤ a
  bk : (toPy d).bulk ≤ b
theorem Gd.good {a b : Nat} {d : D} (g : Gd a b d) (ha : a ≤ 60 := by decide) (hb : b ≤ 2 ^ 20 := by decide) : GoodD d := ⟨g.p, g.o, Nat.le_trans g.dp ha, Nat.le_trans g.bk hb⟩
theorem Gd.up {a b a' b' : Nat} {d : D} (g : Gd a b d) (ha : a ≤ a') (hb : b ≤ b') : Gd a' b' d := ⟨g.p, g.o, Nat.le_trans g.dp ha, Nat.le_trans g.bk hb⟩
theorem gd_all {a b : Nat} : ∀ {ds : List D}, (∀ d ∈ ds, Gd a b d) → pureDs ds = true ∧ okAll (toPys ds) = true ∧ PyData.depthAll (toPys ds) ≤ a ∧ PyData.bulkAll (toPys ds) ≤ (b + 1) * ds.length
  | [], _ => ⟨rfl, rfl, Nat.zero_le _, Nat.zero_le _⟩
  | d :: ds, h => by
    have g := h d (List.mem_cons_self ..)
    obtain ⟨h1, h2, h3, h4⟩ := gd_all fun x hx => h x (List.mem_cons_of_mem _ hx)
    refine ⟨by rw [pureDs, g.p, h1]; rfl, by rw [toPys, okAll, g.o, h2]; rfl, ?_, ?_⟩
    · rw [toPys, PyData.depthAll]; exact Nat.max_le.mpr ⟨g.dp, h3⟩
    · rw [toPys, PyData.bulkAll, List.length_cons, Nat.mul_succ]
      have := g.bk
      omega
theorem Gd.tup {a b : Nat} {ds : List D} (h : ∀ d ∈ ds, Gd a b d) : Gd (a + 1) ((b + 1) * ds.length) (.tup ds) := by
  obtain ⟨h1, h2, h3, h4⟩ := gd_all h
  exact ⟨h1, h2, by show (PyData.tuple (toPys ds)).depth ≤ _; rw [PyData.depth]; omega, h4⟩
theorem Gd.lst {a b : Nat} {ds : List D} (h : ∀ d ∈ ds, Gd a b d) : Gd (a + 1) ((b + 1) * ds.length) (.lst ds) := by
  obtain ⟨h1, h2, h3, h4⟩ := gd_all h
  exact ⟨h1, h2, by show (PyData.list (toPys ds)).depth ≤ _; rw [PyData.depth]; omega, h4⟩
theorem gd_int {i : Int} (h : i.natAbs < 10 ^ 7) : Gd 0 0 (.int i) := ⟨rfl, decide_eq_true h, Nat.le_refl _, Nat.le_refl _⟩
def prs (qs : List R3) : List D := zipD (qs.map mD) ((qs.drop 1).map mD)
theorem cut_one (ps : List R3) : Dl.cutD (List.map mD ps) (some 1) none = (ps.drop 1).map mD := by
  rw [show (1 : Int) = ((1 : Nat) : Int) from rfl, cut_drop, List.map_drop]
def notIn (m : Int) (d : D) : Option D := if isIdx m d then none else some d
theorem nin_all (m : Int) : ∀ l : List D, (l.filterMap (notIn m)).isEmpty = l.all (isIdx m)
  | [] => rfl
  | d :: l => by
    rw [List.all_cons]
    cases h : isIdx m d with
    | true => rw [List.filterMap_cons_none (show notIn m d = none from if_pos h), nin_all m l]; rfl
    | false => rw [List.filterMap_cons_some (show notIn m d = some d from if_neg (by rw [h]; decide))]; rfl
theorem good_ints {m : Int} (hm : m ≤ 1000) {ps : List Int} (v : ∀ p ∈ ps, 0 ≤ p ∧ p < m) (h : ps.length ≤ 5000) : GoodD (.lst (List.map D.int ps)) :=
  (Gd.lst (a := 0) (b := 0) fun d hd => by
    obtain ⟨p, hp, rfl⟩ := List.mem_map.mp hd
    have := v p hp
    exact gd_int (by omega)).good (by decide) (by rw [List.length_map]; omega)
theorem eqD_ints : ∀ as bs : List Int, eqD (.lst (as.map D.int)) (.lst (bs.map D.int)) = decide (as = bs) := fun as bs => by
  have h : ∀ as bs : List Int, PyData.eqvAll (toPys (as.map D.int)) (toPys (bs.map D.int)) = decide (as = bs) := fun as => by
    induction as with
    | nil => intro bs; cases bs <;> simp [toPys, PyData.eqvAll]
    | cons a as ih =>
      intro bs
      cases bs with
      | nil => simp [toPys, PyData.eqvAll]
      | cons b bs =>
        rw [List.map_cons, List.map_cons, toPys, toPys, PyData.eqvAll, ih, Bool.eq_iff_iff]
        simp [toPy, PyData.eqv]
  exact h as bs
section
variable {P : Program} {w : World} {K : PySem.W.Frag} {mg : Str → Option Value} {base : Heap} {k : Dek}
def spFault : DSp := fun ds n P => ∃ x, ds = [x] ∧ ∃ s v e, x = .tup [s, v, e] ∧ Lot s v e ∧ P (.lst (dueF s v e)) n
theorem ok__law_fault (T : Tx K mg) : FnK P w K mg base 3 T.f__law_fault T.d__law_fault ["_law_plan"] k spFault := by
  refine fnk_of T.F__law_fault sc__law_fault (fun ds n P h => ?_) fun cv A out s H E W ds n Q hr h => ?_
  · obtain ⟨_, rfl, _⟩ := h; rfl
  obtain ⟨_, rfl, s0, v0, e0, rfl, L, hq⟩ := h
  refine ⟨_, (dss_cons (ds_asg (dn 0) (dg_tup (n := 3) rfl (dgs_cons (dg_name (i := 1) sc__law_fault.nd rfl (by first | exact .inl rfl | exact .inr rfl)) (dgs_cons (dg_name (i := 2) sc__law_fault.nd rfl (by first | exact .inl rfl | exact .inr rfl)) (dgs_cons (dg_name (i := 3) sc__law_fault.nd rfl (by first | exact .inl rfl | exact .inr rfl)) dgs_nil)))))
      (dss_cons (ds_if (dt_w (dw_or (dt_not (dt_val (de_callK (ok__law_is_in T) (hr.mono (by first | decide | omega)) (by rfl) T.g__law_is_in T.F__law_is_in.kp (bd__law_is_in T) (da_cons (dn 1) (da_cons de_int da_nil))))) (dw_or1 (dt_cmp (DOpB.op do_lt) (dn 1) de_int)))) (dss_one (ds_ret (DO.de (do_lst (da_cons de_str da_nil))))) dss_nil)
      (dss_cons (ds_if (dt_not (dt_val (de_isi dc_isTup (by rfl) T.b_isinstance (by decide +kernel) (dn 2) (dty (T := "tuple") (by rfl) T.b_tuple (by decide +kernel))))) (dss_one (ds_ret (DO.de (do_lst (da_cons de_str da_nil))))) dss_nil)
      (dss_cons (ds_for PassesOwn.never rfl (di_any (dn 2)) (dg_name (i := 4) sc__law_fault.nd rfl (by first | exact .inl rfl | exact .inr rfl)) (dss_one (ds_if (dt_not (dt_val (de_callK (ok__law_is_way T) (hr.mono (by first | decide | omega)) (by rfl) T.g__law_is_way T.F__law_is_way.kp (bd__law_is_way T) (da_cons (dn 4) (da_cons (dn 1) da_nil))))) (dss_one (ds_ret (DO.de (do_lst (da_cons (dn 4) da_nil))))) dss_nil)))
      (dss_cons (ds_for PassesOwn.never rfl (di_zip (by rfl) T.b_zip (da_cons (dn 2) (da_cons (de_sl (dn 2) (dp_some de_int) dp_none) da_nil))) (dg_tup (n := 2) rfl (dgs_cons (dg_name (i := 5) sc__law_fault.nd rfl (by first | exact .inl rfl | exact .inr rfl)) (dgs_cons (dg_name (i := 6) sc__law_fault.nd rfl (by first | exact .inl rfl | exact .inr rfl)) dgs_nil))) (dss_one (ds_if (dt_not (dt_cmp (DOpB.op (do_ltK knISI hr.units)) (dn 5) (dn 6))) (dss_one (ds_ret (DO.de (do_lst (da_cons de_str da_nil))))) dss_nil)))
      (dss_cons (ds_for PassesOwn.never rfl (di_zip (by rfl) T.b_zip (da_cons (dn 2) (da_cons (de_sl (dn 2) (dp_some de_int) dp_none) da_nil))) (dg_tup (n := 2) rfl (dgs_cons (dg_name (i := 5) sc__law_fault.nd rfl (by first | exact .inl rfl | exact .inr rfl)) (dgs_cons (dg_name (i := 6) sc__law_fault.nd rfl (by first | exact .inl rfl | exact .inr rfl)) dgs_nil))) (dss_one (ds_if (dt_cmp (DOpB.op (do_eq hr.units)) (de_sl (dn 5) dp_none (dp_some de_int)) (de_sl (dn 6) dp_none (dp_some de_int))) (dss_one (ds_ret (DO.de (do_lst (da_cons (dn 6) da_nil))))) dss_nil)))
      (dss_cons (ds_if (dt_w (dw_or (dt_not (dt_val (de_isi dc_isTup (by rfl) T.b_isinstance (by decide +kernel) (dn 3) (dty (T := "tuple") (by rfl) T.b_tuple (by decide +kernel))))) (dw_or1 (dt_cmp (DOpB.op (do_neL0 hr.units)) (DO.de (do_lc (own := [("_law_state", 7)]) rfl sc__law_fault.nd (di_any (dn 3)) (blkOk_by (N := ["_law_plan", "_law_count", "_law_ways", "_law_goals", "_law_way", "_law_one_way", "_law_next_way", "_law_state"]) (sc := defScope (top 55)) (by decide +kernel)) (fun _ _ _ _ _ _ => (dg_name (i := 7) sc__law_fault.nd rfl (by first | exact .inl rfl | exact .inr rfl))) (fun _ _ _ _ _ _ => (dts_one (dt_not (dt_val (de_callK (ok__law_is_in T) (hr.mono (by first | decide | omega)) (by rfl) T.g__law_is_in T.F__law_is_in.kp (bd__law_is_in T) (da_cons (dn 7) (da_cons (dn 1) da_nil))))))) (fun _ _ _ _ _ _ => (dn 7)))) (DO.de (do_lst da_nil)))))) (dss_one (ds_ret (DO.de (do_lst (da_cons de_str da_nil))))) dss_nil)
      (dss_one (ds_ret (de_if (dt_cmp (DOpB.op (do_ne hr.units)) (DO.de (do_callTy dc_list (by rfl) T.b_list (by decide +kernel) (da_cons (dn 3) da_nil))) (DO.de (do_sortK rfl (by rfl) T.b_sorted (by rfl) T.b_set (dn 3)))) (DO.de (do_lst (da_cons de_str da_nil))) (DO.de (do_lst da_nil)))))))))))), ?_⟩
  have lz := line_big
  refine seqE ⟨[some (.v (.tup [s0, v0, e0])), some (.v s0), some (.v v0), some (.v e0), none, none, none, none], n⟩ (fun N hN => ?_) ?_
  · ((repeat ((conv => whnf); first | refine ⟨(fun z e => by cases e), ?_⟩ | refine ⟨_, _, _, rfl, rfl, ?_⟩ | refine ⟨_, _, _, _, rfl, rfl, rfl, ?_⟩ | refine ⟨rfl, ?_⟩ | refine ⟨Nat.le_of_ble_eq_true rfl, ?_⟩ | refine ⟨by decide, ?_⟩)); (conv => whnf))
    exact hN
  refine seqS (fun S' => ∃ m, s0 = .int m ∧ (1 ≤ m ∧ m ≤ 999) ∧ S' = ⟨[some (.v (.tup [s0, v0, e0])), some (.v s0), some (.v v0), some (.v e0), none, none, none, none], n⟩) (fun N hN => ?_) ?_
  · conv => whnf
    refine ⟨_, _, rfl, 1000, rfl, L.vs.pl, ?_⟩
    cases h1 : isIdx 1000 s0 with
    | false =>
      have e : dueF s0 v0 e0 = [.str "size"] := by
        cases s0 with
        | int m => exact if_neg (fun h => by rw [idx_iff.mpr ⟨by omega, by omega⟩] at h1; cases h1)
        | _ => rfl
      rw [e] at hq
      ((repeat ((conv => whnf); first | refine ⟨(fun z e => by cases e), ?_⟩ | refine ⟨_, _, _, rfl, rfl, ?_⟩ | refine ⟨_, _, _, _, rfl, rfl, rfl, ?_⟩ | refine ⟨rfl, ?_⟩ | refine ⟨Nat.le_of_ble_eq_true rfl, ?_⟩ | refine ⟨by decide, ?_⟩)); (conv => whnf))
      exact hq
    | true =>
      obtain ⟨m, rfl, h0, h9⟩ := idx_of h1
      conv => whnf
      refine onT_of (b := decide (m < 1)) (fun h => ?_) (fun h => ?_)
      · have h := of_decide_eq_true h
        have e : dueF (.int m) v0 e0 = [.str "size"] := if_neg (by omega)
        rw [e] at hq
        ((repeat ((conv => whnf); first | refine ⟨(fun z e => by cases e), ?_⟩ | refine ⟨_, _, _, rfl, rfl, ?_⟩ | refine ⟨_, _, _, _, rfl, rfl, rfl, ?_⟩ | refine ⟨rfl, ?_⟩ | refine ⟨Nat.le_of_ble_eq_true rfl, ?_⟩ | refine ⟨by decide, ?_⟩)); (conv => whnf))
        exact hq
      · have h := of_decide_eq_false h
        exact hN _ ⟨m, rfl, ⟨by omega, by omega⟩, rfl⟩
  rintro _ ⟨m, rfl, hm, rfl⟩
  rw [dueF_at hm] at hq
  refine seqS (fun S' => ∃ ws, v0 = .tup ws ∧ S' = ⟨[some (.v (.tup [.int m, v0, e0])), some (.v (.int m)), some (.v v0), some (.v e0), none, none, none, none], n⟩) (fun N hN => ?_) ?_
  · cases v0 with
    | tup ws =>
      ((repeat ((conv => whnf); first | refine ⟨(fun z e => by cases e), ?_⟩ | refine ⟨_, _, _, rfl, rfl, ?_⟩ | refine ⟨_, _, _, _, rfl, rfl, rfl, ?_⟩ | refine ⟨rfl, ?_⟩ | refine ⟨Nat.le_of_ble_eq_true rfl, ?_⟩ | refine ⟨by decide, ?_⟩)); (conv => whnf))
      exact hN _ ⟨ws, rfl, rfl⟩
    | ins _ _ _ => exact absurd L.vv.pl Bool.false_ne_true
    | «at» _ => exact absurd L.vv.pl Bool.false_ne_true
    | _ =>
      ((repeat ((conv => whnf); first | refine ⟨(fun z e => by cases e), ?_⟩ | refine ⟨_, _, _, rfl, rfl, ?_⟩ | refine ⟨_, _, _, _, rfl, rfl, rfl, ?_⟩ | refine ⟨rfl, ?_⟩ | refine ⟨Nat.le_of_ble_eq_true rfl, ?_⟩ | refine ⟨by decide, ?_⟩)); (conv => whnf))
      exact hq
  rintro _ ⟨ws, rfl, rfl⟩
  obtain ⟨_, hi⟩ := L.vv.tup
  refine seqS (fun S' => ∃ v4, S' = ⟨[some (.v (.tup [.int m, .tup ws, e0])), some (.v (.int m)), some (.v (.tup ws)), some (.v e0), v4, none, none, none], n⟩ ∧ ws.all (isMove m) = true) (fun N hN => ?_) ?_
  · conv => whnf
    refine forL_J (fun (rest : List D) (S : Ds) => ∃ v4, S = ⟨[some (.v (.tup [.int m, .tup ws, e0])), some (.v (.int m)), some (.v (.tup ws)), some (.v e0), v4, none, none, none], n⟩ ∧ (ws.find? fun d => !isMove m d) = rest.find? fun d => !isMove m d) _ _ ?_ ?_ ⟨none, rfl, rfl⟩
    · rintro d rest S ⟨pre, epre⟩ ⟨v4, rfl, hf⟩ N2 hN2
      have hd' : d ∈ ws := by rw [epre]; simp
      conv => whnf
      refine ⟨_, _, rfl, m, rfl, hi d hd', ?_⟩
      refine onT_of (b := !isMove m d) (fun h => ?_) (fun h => ?_)
      · rw [List.find?_cons_of_pos (by simpa using h)] at hf
        have e : wrongV m (.tup ws) = [d] := by
          show (match ws.find? (fun d => !isMove m d) with
            | some d => [d]
            | none => if ascB (ws.map m3Of) then ((twin (ws.map m3Of)).map mD).toList else [.str "order"]) = _
          rw [hf]
        rw [e] at hq
        ((repeat ((conv => whnf); first | refine ⟨(fun z e => by cases e), ?_⟩ | refine ⟨_, _, _, rfl, rfl, ?_⟩ | refine ⟨_, _, _, _, rfl, rfl, rfl, ?_⟩ | refine ⟨rfl, ?_⟩ | refine ⟨Nat.le_of_ble_eq_true rfl, ?_⟩ | refine ⟨by decide, ?_⟩)); (conv => whnf))
        exact hq
      · rw [List.find?_cons_of_neg (by simpa using h)] at hf
        exact hN2 _ ⟨_, rfl, hf⟩
    · rintro S ⟨v4, rfl, hf⟩
      exact hN _ ⟨v4, rfl, find_none.mp hf⟩
  rintro _ ⟨v4, rfl, hall⟩
  obtain ⟨ps, rfl, v, _⟩ := moves_of hall
  rw [wrong_v v] at hq
  have hpl := L.wv _ rfl
  rw [List.length_map] at hpl
  refine seqS (fun S' => ∃ v5 v6, S' = ⟨[some (.v (.tup [.int m, .tup (List.map mD ps), e0])), some (.v (.int m)), some (.v (.tup (List.map mD ps))), some (.v e0), v4, v5, v6, none], n⟩ ∧ ascB ps = true) (fun N hN => ?_) ?_
  · conv => whnf
    rw [cut_one]
    refine forL_J (fun (rest : List D) (S : Ds) => ∃ (qs : List R3) (v5 v6 : Option Sl), rest = prs qs ∧ S = ⟨[some (.v (.tup [.int m, .tup (List.map mD ps), e0])), some (.v (.int m)), some (.v (.tup (List.map mD ps))), some (.v e0), v4, v5, v6, none], n⟩ ∧ ascB ps = ascB qs) _ _ ?_ ?_ ⟨ps, none, none, rfl, rfl, rfl⟩
    · rintro d rest S - ⟨qs, v5, v6, e, rfl, ha⟩ N2 hN2
      match qs, e, ha with
      | [], e, _ => cases e
      | [_], e, _ => cases e
      | a :: b :: r, e, ha =>
        injection e with e1 e2
        subst e1 e2
        rw [ascB_cons] at ha
        conv => whnf
        refine ⟨rfl, ?_⟩
        conv => whnf
        refine ⟨_, _, rfl, rfl, ?_⟩
        cases hlt : lt' a b with
        | false =>
          have e : ascB ps = false := by rw [ha]; exact (congrArg (· && ascB (b :: r)) hlt).trans (Bool.false_and _)
          rw [e, if_neg (by decide)] at hq
          refine onT_t (b := !lt' a b) (by rw [hlt]; rfl) ?_
          ((repeat ((conv => whnf); first | refine ⟨(fun z e => by cases e), ?_⟩ | refine ⟨_, _, _, rfl, rfl, ?_⟩ | refine ⟨_, _, _, _, rfl, rfl, rfl, ?_⟩ | refine ⟨rfl, ?_⟩ | refine ⟨Nat.le_of_ble_eq_true rfl, ?_⟩ | refine ⟨by decide, ?_⟩)); (conv => whnf))
          exact hq
        | true =>
          have e : ascB ps = ascB (b :: r) := by rw [ha]; exact (congrArg (· && ascB (b :: r)) hlt).trans (Bool.true_and _)
          refine onT_f (b := !lt' a b) (by rw [hlt]; rfl) ?_
          exact hN2 _ ⟨b :: r, _, _, rfl, rfl, e⟩
    · rintro S ⟨qs, v5, v6, e, rfl, ha⟩
      refine hN _ ⟨v5, v6, rfl, ?_⟩
      rw [ha]
      match qs, e with
      | [], _ => rfl
      | [_], _ => rfl
      | _ :: _ :: _, e => cases e
  rintro _ ⟨v5, v6, rfl, hasc⟩
  rw [if_pos hasc] at hq
  refine seqS (fun S' => ∃ v5 v6, S' = ⟨[some (.v (.tup [.int m, .tup (List.map mD ps), e0])), some (.v (.int m)), some (.v (.tup (List.map mD ps))), some (.v e0), v4, v5, v6, none], n⟩ ∧ twin ps = none) (fun N hN => ?_) ?_
  · conv => whnf
    rw [cut_one]
    refine forL_J (fun (rest : List D) (S : Ds) => ∃ (qs : List R3) (v5 v6 : Option Sl), rest = prs qs ∧ S = ⟨[some (.v (.tup [.int m, .tup (List.map mD ps), e0])), some (.v (.int m)), some (.v (.tup (List.map mD ps))), some (.v e0), v4, v5, v6, none], n⟩ ∧ twin ps = twin qs ∧ ∀ p ∈ qs, VM m p) _ _ ?_ ?_ ⟨ps, v5, v6, rfl, rfl, rfl, v⟩
    · rintro d rest S - ⟨qs, v5, v6, e, rfl, ha, hv⟩ N2 hN2
      match qs, e, ha, hv with
      | [], e, _, _ => cases e
      | [_], e, _, _ => cases e
      | a :: b :: r, e, ha, hv =>
        injection e with e1 e2
        subst e1 e2
        have ha : twin ps = if a.1 = b.1 ∧ a.2 = b.2 then some b else twin (b :: r) := ha
        conv => whnf
        refine ⟨rfl, ?_⟩
        conv => whnf
        refine ⟨good_key (by omega) (hv a (by simp)), good_key (by omega) (hv b (by simp)), ?_⟩
        refine onT_of (b := eqD (.tup [.int a.1, .str a.2]) (.tup [.int b.1, .str b.2])) (fun h => ?_) (fun h => ?_)
        · rw [eq_key, decide_eq_true_eq] at h
          rw [ha, if_pos h] at hq
          ((repeat ((conv => whnf); first | refine ⟨(fun z e => by cases e), ?_⟩ | refine ⟨_, _, _, rfl, rfl, ?_⟩ | refine ⟨_, _, _, _, rfl, rfl, rfl, ?_⟩ | refine ⟨rfl, ?_⟩ | refine ⟨Nat.le_of_ble_eq_true rfl, ?_⟩ | refine ⟨by decide, ?_⟩)); (conv => whnf))
          exact hq
        · rw [eq_key, decide_eq_false_iff_not] at h
          rw [if_neg h] at ha
          exact hN2 _ ⟨b :: r, _, _, rfl, rfl, ha, fun p hp => hv p (List.mem_cons_of_mem _ hp)⟩
    · rintro S ⟨qs, v5, v6, e, rfl, ha, _⟩
      refine hN _ ⟨v5, v6, rfl, ?_⟩
      rw [ha]
      match qs, e with
      | [], _ => rfl
      | [_], _ => rfl
      | _ :: _ :: _, e => cases e
  rintro _ ⟨v5, v6, rfl, htw⟩
  rw [htw] at hq
  have hq : Q (.lst (if isEnds m e0 then [] else [.str "ends"])) n := hq
  have g0 : GoodD (.lst []) := (Gd.lst (a := 0) (b := 0) (ds := []) fun d h => by cases h).good
  have bad : isEnds m e0 = false → Q (.lst [.str "ends"]) n := fun h => by rw [h] at hq; exact hq
  cases e0 with
  | tup es =>
    obtain ⟨hel, hei⟩ := L.ve.tup
    have hel := L.we _ rfl
    refine seqS (fun S' => S' = ⟨[some (.v (.tup [.int m, .tup (List.map mD ps), .tup es])), some (.v (.int m)), some (.v (.tup (List.map mD ps))), some (.v (.tup es)), v4, v5, v6, none], n⟩ ∧ es.all (isIdx m) = true) (fun N hN => ?_) ?_
    · conv => whnf
      refine lcL_pure (notIn m) _ _ (fun d hd A B hA => ?_) (by show 0 + _ ≤ _; omega) ?_
      · conv => whnf
        refine ⟨_, _, rfl, m, rfl, (hei d hd).pl, ?_⟩
        cases h : isIdx m d with
        | true =>
          rw [show notIn m d = none from if_pos h] at hA
          exact hA _ rfl
        | false =>
          rw [show notIn m d = some d from if_neg (by rw [h]; decide)] at hA
          exact hA _ rfl
      · rw [List.nil_append]
        have e1 := nin_all m es
        ((repeat ((conv => whnf); first | refine ⟨(fun z e => by cases e), ?_⟩ | refine ⟨_, _, _, rfl, rfl, ?_⟩ | refine ⟨_, _, _, _, rfl, rfl, rfl, ?_⟩ | refine ⟨rfl, ?_⟩ | refine ⟨Nat.le_of_ble_eq_true rfl, ?_⟩ | refine ⟨by decide, ?_⟩)); (conv => whnf))
        cases h3 : es.all (isIdx m) with
        | false =>
          rw [h3] at e1
          refine onT_t (b := !(es.filterMap (notIn m)).isEmpty) (by rw [e1]; rfl) ?_
          have := bad (by show (es.all (isIdx m) && _) = false; rw [h3]; rfl)
          ((repeat ((conv => whnf); first | refine ⟨(fun z e => by cases e), ?_⟩ | refine ⟨_, _, _, rfl, rfl, ?_⟩ | refine ⟨_, _, _, _, rfl, rfl, rfl, ?_⟩ | refine ⟨rfl, ?_⟩ | refine ⟨Nat.le_of_ble_eq_true rfl, ?_⟩ | refine ⟨by decide, ?_⟩)); (conv => whnf))
          exact this
        | true =>
          rw [h3] at e1
          refine onT_f (b := !(es.filterMap (notIn m)).isEmpty) (by rw [e1]; rfl) ?_
          exact hN _ ⟨rfl, h3⟩
    rintro _ ⟨rfl, h3⟩
    obtain ⟨is, rfl, pv, _⟩ := ends_of h3
    rw [isEnds_v pv] at hq
    rw [List.length_map] at hel
    conv => whnf
    refine .inr ⟨is, .inr rfl, Nat.lt_of_le_of_lt (Nat.succ_le_succ hel) (by decide), fun ys pw nd mem => ?_⟩
    have hyl : ys.length ≤ is.length := sub_len nd fun z hz => (mem z).mp hz
    conv => whnf
    refine ⟨good_ints (by omega) pv (by omega), good_ints (by omega) (fun p hp => pv p ((mem p).mp hp)) (by omega), ?_⟩
    have ee : eqD (.lst (List.map D.int is)) (.lst (List.map D.int ys)) = ascB is := by
      rw [eqD_ints]
      exact sort_eq trn_int tri_int irr_int nd mem (pw.imp fun {a b} h => decide_eq_false (by omega))
    cases h4 : ascB is with
    | false =>
      rw [h4] at hq ee
      refine onT_t (b := !eqD (.lst (List.map D.int is)) (.lst (List.map D.int ys))) (by rw [ee]; rfl) ?_
      ((repeat ((conv => whnf); first | refine ⟨(fun z e => by cases e), ?_⟩ | refine ⟨_, _, _, rfl, rfl, ?_⟩ | refine ⟨_, _, _, _, rfl, rfl, rfl, ?_⟩ | refine ⟨rfl, ?_⟩ | refine ⟨Nat.le_of_ble_eq_true rfl, ?_⟩ | refine ⟨by decide, ?_⟩)); (conv => whnf))
      exact hq
    | true =>
      rw [h4] at hq ee
      refine onT_f (b := !eqD (.lst (List.map D.int is)) (.lst (List.map D.int ys))) (by rw [ee]; rfl) ?_
      ((repeat ((conv => whnf); first | refine ⟨(fun z e => by cases e), ?_⟩ | refine ⟨_, _, _, rfl, rfl, ?_⟩ | refine ⟨_, _, _, _, rfl, rfl, rfl, ?_⟩ | refine ⟨rfl, ?_⟩ | refine ⟨Nat.le_of_ble_eq_true rfl, ?_⟩ | refine ⟨by decide, ?_⟩)); (conv => whnf))
      exact hq
  | ins _ _ _ => exact absurd L.ve.pl Bool.false_ne_true
  | «at» _ => exact absurd L.ve.pl Bool.false_ne_true
  | _ =>
    ((repeat ((conv => whnf); first | refine ⟨(fun z e => by cases e), ?_⟩ | refine ⟨_, _, _, rfl, rfl, ?_⟩ | refine ⟨_, _, _, _, rfl, rfl, rfl, ?_⟩ | refine ⟨rfl, ?_⟩ | refine ⟨Nat.le_of_ble_eq_true rfl, ?_⟩ | refine ⟨by decide, ?_⟩)); (conv => whnf))
    exact hq
end
end K01
namespace K01
open PySem PySem.Spec PyProof.Rows L2 L2H Sw Dl Ss
/-! ### formats that stand -/
structure VG (w : Wl) : Prop where
  c0 : 1 ≤ w.cnt
  c1 : w.cnt ≤ 999
  g : ∀ p ∈ w.go, VM w.cnt p
  e : ∀ i ∈ w.en, 0 ≤ i ∧ i < w.cnt
  gl : w.go.length ≤ 900
  el : w.en.length ≤ 900
theorem gd_str {z : Str} {n : Nat} (h : asc z = true) (hl : z.length ≤ n) : Gd 0 n (.str z) := ⟨rfl, h, Nat.le_refl _, hl⟩
theorem gd_mD {m : Int} (hm : m ≤ 1000) {p : R3} (v : VM m p) : Gd 1 6 (mD p) := by
  obtain ⟨c, ec, hc⟩ := v.b
  have := v.a0
  have := v.a1
  have := v.d0
  have := v.d1
  have := az_lt hc
  have h : ∀ d ∈ [D.int p.1, .str p.2, .int p.3], Gd 0 1 d := fun d hd => ?_
  · exact Gd.tup h
  simp only [List.mem_cons, List.not_mem_nil, or_false] at hd
  rcases hd with rfl | rfl | rfl
  · exact (gd_int (by omega)).up (Nat.le_refl _) (by omega)
  · rw [ec]
    exact gd_str (by show (decide (c < 128) && true) = true; rw [decide_eq_true (by omega)]; rfl) (Nat.le_refl _)
  · exact (gd_int (by omega)).up (Nat.le_refl _) (by omega)
theorem VG.gm {w : Wl} (v : VG w) : GoodD (.tup (List.map mD w.go)) :=
  (Gd.tup (a := 1) (b := 6) fun d hd => by
    obtain ⟨p, hp, rfl⟩ := List.mem_map.mp hd
    exact gd_mD (by have := v.c1; omega) (v.g p hp)).good (by decide) (by rw [List.length_map]; have := v.gl; omega)
theorem VG.ge {w : Wl} (v : VG w) : GoodD (.tup (List.map D.int w.en)) :=
  (Gd.tup (a := 0) (b := 0) fun d hd => by
    obtain ⟨p, hp, rfl⟩ := List.mem_map.mp hd
    have := v.e p hp
    have := v.c1
    exact gd_int (by omega)).good (by decide) (by rw [List.length_map]; have := v.el; omega)
theorem eqv_map {α : Type} [DecidableEq α] {f : α → D} (h : ∀ a b, PyData.eqv (toPy (f a)) (toPy (f b)) = decide (a = b)) : ∀ as bs : List α, PyData.eqvAll (toPys (as.map f)) (toPys (bs.map f)) = decide (as = bs)
  | [], [] => rfl
  | [], _ :: _ => by simp [toPys, PyData.eqvAll]
  | _ :: _, [] => by simp [toPys, PyData.eqvAll]
  | a :: as, b :: bs => by
    rw [List.map_cons, List.map_cons, toPys, toPys, PyData.eqvAll, h, eqv_map h as bs, Bool.eq_iff_iff]
    simp
theorem eqv_mD (r q : R3) : PyData.eqv (toPy (mD r)) (toPy (mD q)) = decide (r = q) := by
  obtain ⟨r1, r2, r3⟩ := r
  obtain ⟨q1, q2, q3⟩ := q
  show PyData.eqvAll [.int r1, .str r2, .int r3] [.int q1, .str q2, .int q3] = _
  simp only [PyData.eqvAll, PyData.eqv, Bool.and_true]
  rw [Bool.beq_eq_decide_eq, Bool.beq_eq_decide_eq, Bool.beq_eq_decide_eq, Bool.eq_iff_iff]
  simp only [Bool.and_eq_true, decide_eq_true_eq, PySem.W.T3.mk.injEq]
theorem eqD_ms (as bs : List R3) : eqD (.tup (as.map mD)) (.tup (bs.map mD)) = decide (as = bs) := eqv_map eqv_mD as bs
theorem eqD_es (as bs : List Int) : eqD (.tup (as.map D.int)) (.tup (bs.map D.int)) = decide (as = bs) := eqD_ints as bs
def wEq (w v : Wl) : Bool := decide (w.cnt = v.cnt) && (decide (w.go = v.go) && decide (w.en = v.en))
def trW (C : Addr) (w : Wl) (z : Str) (g : D) : D := .ins C trN [.int w.cnt, .tup (List.map mD w.go), .tup (List.map D.int w.en), .str z, g]
section
variable {P : Program} {w : World} {K : PySem.W.Frag} {mg : Str → Option Value} {base : Heap} {k : Dek}
def spEqF (C : Addr) : DSp := fun ds n P => ∃ x y, ds = [x, y] ∧ ∃ w z g, x = trW C w z g ∧ VG w ∧ ((∃ v z2 g2, y = trW C v z2 g2 ∧ VG v ∧ P (.bl (wEq w v)) n) ∨ (plain y = true ∧ P (.bl false) n))
theorem ok_Format____eq__ (T : Tx K mg) : FnK P w K mg base 1 T.f_Format____eq__ T.d_Format____eq__ ["self", "other"] k (spEqF T.c_Format) := by
  refine fnk_of T.F_Format____eq__ sc_Format____eq__ (fun ds n P h => ?_) fun cv A out s H E W ds n Q hr h => ?_
  · obtain ⟨_, _, rfl, _⟩ := h; rfl
  obtain ⟨_, y, rfl, w, z, g, rfl, vw, hy⟩ := h
  refine ⟨_, (dss_one (ds_ret (de_and (de_isC T.insFormat T.yesFormat T.noKFormat (by rfl) T.b_isinstance (dn 1) (pe_glob (v := .ref T.c_Format) (by rfl) T.gc_Format rfl)) (de_and (de_cmp (DOpB.op (do_eq hr.units)) (de_fld T.insFormat.cl T.no_Format_size (dn 0)) (de_fld T.insFormat.cl T.no_Format_size (dn 1))) (de_and (de_cmp (DOpB.op (do_eq hr.units)) (de_fld T.insFormat.cl T.no_Format_moves (dn 0)) (de_fld T.insFormat.cl T.no_Format_moves (dn 1))) (de_one (de_cmp (DOpB.op (do_eq hr.units)) (de_fld T.insFormat.cl T.no_Format_ends (dn 0)) (de_fld T.insFormat.cl T.no_Format_ends (dn 1))))))))), ?_⟩
  rcases hy with ⟨v, z2, g2, rfl, vv, hq⟩ | ⟨hp, hq⟩
  · have c1 := vw.c1
    have c2 := vv.c1
    unfold wEq at hq
    ((repeat ((conv => whnf); first | refine ⟨(fun z e => by cases e), ?_⟩ | refine ⟨_, _, _, rfl, rfl, ?_⟩ | refine ⟨_, _, _, _, rfl, rfl, rfl, ?_⟩ | refine ⟨rfl, ?_⟩ | refine ⟨Nat.le_of_ble_eq_true rfl, ?_⟩ | refine ⟨by decide, ?_⟩)); (conv => whnf))
    cases e1 : decide (w.cnt = v.cnt) with
    | false => rw [e1] at hq; exact hq
    | true =>
      rw [e1, Bool.true_and] at hq
      ((repeat ((conv => whnf); first | refine ⟨(fun z e => by cases e), ?_⟩ | refine ⟨_, _, _, rfl, rfl, ?_⟩ | refine ⟨_, _, _, _, rfl, rfl, rfl, ?_⟩ | refine ⟨rfl, ?_⟩ | refine ⟨Nat.le_of_ble_eq_true rfl, ?_⟩ | refine ⟨by decide, ?_⟩)); (conv => whnf))
      refine ⟨vw.gm, vv.gm, ?_⟩
      rw [eqD_ms]
      cases e2 : decide (w.go = v.go) with
      | false => rw [e2] at hq; exact hq
      | true =>
        rw [e2, Bool.true_and] at hq
        ((repeat ((conv => whnf); first | refine ⟨(fun z e => by cases e), ?_⟩ | refine ⟨_, _, _, rfl, rfl, ?_⟩ | refine ⟨_, _, _, _, rfl, rfl, rfl, ?_⟩ | refine ⟨rfl, ?_⟩ | refine ⟨Nat.le_of_ble_eq_true rfl, ?_⟩ | refine ⟨by decide, ?_⟩)); (conv => whnf))
        refine ⟨vw.ge, vv.ge, ?_⟩
        rw [eqD_es]
        exact hq
  · conv => whnf
    cases y with
    | ins _ _ _ => exact absurd hp Bool.false_ne_true
    | «at» _ => exact absurd hp Bool.false_ne_true
    | _ => exact ⟨trivial, hq⟩
def spLenF (C : Addr) : DSp := fun ds n P => ∃ x, ds = [x] ∧ ∃ w z g, x = trW C w z g ∧ VG w ∧ P (.int w.cnt) n
theorem ok_Format____len__ (T : Tx K mg) : FnK P w K mg base 1 T.f_Format____len__ T.d_Format____len__ ["self"] k (spLenF T.c_Format) := by
  refine fnk_of T.F_Format____len__ sc_Format____len__ (fun ds n P h => ?_) fun cv A out s H E W ds n Q hr h => ?_
  · obtain ⟨_, rfl, _⟩ := h; rfl
  obtain ⟨x0, rfl, h⟩ := h
  refine ⟨_, (dss_one (ds_ret (de_lenRg (by rfl) T.b_len (by rfl) T.b_range (de_fld T.insFormat.cl T.no_Format_size (dn 0))))), ?_⟩
  dsimp only [dRet, dBack, dJoin, dRetN, dSeq, dNext, dIfS, dAnd, dOr, dNot, dIf, dBool, dNotT, dAndT, dOrT, dBin, dChain, dCall, dCB, dCons, dNil, dTup, dLst, dVar, dC, dAsg, gN, gsNil, gsCons, gT, dSetO, dFor, dIAny, dIR1, dIR2, dIZip, dIEnum, dIRev, dLc, dYes, dDrop, dPar, dWhile, ownL, putO, dAppend, dExtend, dPop, dIxO, dLenO, dIx, dIsiE, dSl, dNoP, dP, dNeg, getS, setS, startD, wipeD, back, List.map]
  obtain ⟨w, z, g, rfl, vw, hq⟩ := h
  have := vw.c0
  have := vw.c1
  refine ⟨_, _, _, rfl, rfl, w.cnt.toNat, ?_, by omega, ?_⟩
  · rw [show ((w.cnt.toNat : Nat) : Int) = w.cnt by omega]
  · rw [show ((w.cnt.toNat : Nat) : Int) = w.cnt by omega]
    exact hq
theorem kb_init (T : Tx K mg) : KBn K T.d_Format____init__ ["self", "size", "moves", "ends"] 1 ["ends", "moves", "size"] (fun us ws => us ++ ws.reverse) (fun vs zs => vs ++ zs.reverse) :=
  kb_n T.F_Format____init__ (fun h1 h2 => vals_app h1 (vals_rev h2)) fun _ _ _ _ _ _ us ws l1 l2 => match us, l1, ws, l2 with | [_], _, [_, _, _], _ => rfl
theorem pv_init {G : Hp} {zs : List V} {ds : List D} (h : DvAll K G zs ds) : DvAll K G zs.reverse ds.reverse := dva_rev h
def spHeard (C : Addr) : DSp := fun ds n P => ∃ x y, ds = [x, y] ∧ ∃ s v e nm, x = .tup [s, v, e] ∧ y = .bl nm ∧ Lot s v e ∧
  (dueF s v e = [] → ∀ ys : List Str, sortedS ys = true → ys.Nodup → (∀ z, z ∈ ys ↔ z ∈ lets v) → ∀ g, P (.ins C trN [s, v, e, .str (Txt.join "" ys), g]) n) ∧ (∀ d, dueF s v e = [d] → P (.lst [.str "bad", .lst [d], .bl true]) n)
theorem ok__law_heard (T : Tx K mg) : FnK P w K mg base 8 T.f__law_heard T.d__law_heard ["_law_plan", "_law_is_named"] k (spHeard T.c_Format) := by
  refine fnk_of T.F__law_heard sc__law_heard (fun ds n P h => ?_) fun cv A out s H E W ds n Q hr h => ?_
  · obtain ⟨_, _, rfl, _⟩ := h; rfl
  obtain ⟨_, _, rfl, s, v, e, nm, rfl, rfl, L, hP, hX⟩ := h
  refine ⟨_, (dss_cons (ds_set (i := 2) sc__law_heard.nd rfl (by first | exact .inl rfl | exact .inr rfl) de_non)
      (dss_cons (ds_try1 (i := 3) rfl rfl sc__law_heard.nd rfl rfl ⟨by rfl, by decide, .inl T.gc_BadFormat⟩ T.exm_BadFormat (fun u s' ⟨_, _, _, _, _, _, _, _, _, _, _, _, _, _, _, _, z⟩ => z.elim) (fun pn xe W' ex tk po => (dss_one (ds_if (dt_val (dn 1)) (dss_one (ds_set (i := 2) sc__law_heard.nd rfl (by first | exact .inl rfl | exact .inr rfl) (de_makeXK tk T.mkFormat (ok_init T) (hr.mono (by first | decide | omega)) (by rfl) T.gc_Format (kb_init T) pv_init (dks_cons (de_ix (dn 0) de_int (fun _ _ => rfl)) (dks_cons (de_ix (dn 0) de_int (fun _ _ => rfl)) (dks_cons (de_ix (dn 0) de_int (fun _ _ => rfl)) dks_nil)))))) (dss_one (ds_set (i := 2) sc__law_heard.nd rfl (by first | exact .inl rfl | exact .inr rfl) (de_makeX tk T.mkFormat (ok_init T) (hr.mono (by first | decide | omega)) (by rfl) T.gc_Format (bd_Format____init__ T) (da_cons (de_ix (dn 0) de_int (fun _ _ => rfl)) (da_cons (de_ix (dn 0) de_int (fun _ _ => rfl)) (da_cons (de_ix (dn 0) de_int (fun _ _ => rfl)) da_nil))))))))) (fun a oe dd ns es pn W' hz hf xo => (dss_one (ds_set (i := 2) sc__law_heard.nd rfl (by first | exact .inl rfl | exact .inr rfl) (DO.de (do_lst (da_cons de_str (da_cons (DO.de (do_lst (da_cons (de_xe T.x_BadFormat (by decide) hz hf xo (dn 3)) da_nil))) (da_cons (de_xis T.x_BadFormat T.xG T.kit_BadFormat hz hf xo (by rfl) T.b_isinstance (dn 3) (de_at (pe_glob (v := .ref T.c_StreamError) (by rfl) T.gc_StreamError rfl))) da_nil)))))))))
      (dss_one (ds_ret (dn 2))))), ?_⟩
  have lz := line_big
  refine seqE ⟨[some (.v (.tup [s, v, e])), some (.v (.bl nm)), some (.v .non), none], n⟩ (fun N hN => ?_) ?_
  · ((repeat ((conv => whnf); first | refine ⟨(fun z e => by cases e), ?_⟩ | refine ⟨_, _, _, rfl, rfl, ?_⟩ | refine ⟨_, _, _, _, rfl, rfl, rfl, ?_⟩ | refine ⟨rfl, ?_⟩ | refine ⟨Nat.le_of_ble_eq_true rfl, ?_⟩ | refine ⟨by decide, ?_⟩)); (conv => whnf))
    exact hN
  refine seqS (fun S' => ∃ (a0 a1 : Option Sl) (d : D), S' = ⟨[a0, a1, some (.v d), none], n⟩ ∧ Q d n) (fun N hN => ?_) ?_
  · have sp : ∀ (PP : List D → Prop) (XX : Addr → List Str → List D → Prop), (dueF s v e = [] → ∀ ys : List Str, sortedS ys = true → ys.Nodup → (∀ z, z ∈ ys ↔ z ∈ lets v) → ∀ g, PP [s, v, e, .str (Txt.join "" ys), g]) → (∀ d, dueF s v e = [d] → XX T.c_BadFormat ["part"] [d]) → spTr T.c_BadFormat [s, v, e] PP XX :=
      fun PP XX h1 h2 => ⟨s, v, e, rfl, L.vs.any, L.vv.any, L.ve.any, fun es h => by have := L.wv es h; omega, h1, h2⟩
    cases nm with
    | true =>
      ((repeat ((conv => whnf); first | refine ⟨(fun z e => by cases e), ?_⟩ | refine ⟨_, _, _, rfl, rfl, ?_⟩ | refine ⟨_, _, _, _, rfl, rfl, rfl, ?_⟩ | refine ⟨rfl, ?_⟩ | refine ⟨Nat.le_of_ble_eq_true rfl, ?_⟩ | refine ⟨by decide, ?_⟩)); (conv => whnf))
      refine ⟨s, v, e, rfl, L.vs.any, L.vv.any, L.ve.any, (fun es h => by have := L.wv es h; omega), fun hd ys so nd my g => ?_, fun d hd => ⟨rfl, fun a => ?_⟩⟩
      · exact hN _ ⟨_, _, _, rfl, hP hd ys so nd my g⟩
      · conv => whnf
        refine ⟨rfl, _, rfl, ?_⟩
        conv => whnf
        refine ⟨by show 1 ≤ sizeLine; omega, ?_⟩
        conv => whnf
        refine ⟨rfl, rfl, ?_⟩
        conv => whnf
        refine ⟨by show 3 ≤ sizeLine; omega, ?_⟩
        exact hN _ ⟨_, _, _, rfl, hX d hd⟩
    | false =>
      ((repeat ((conv => whnf); first | refine ⟨(fun z e => by cases e), ?_⟩ | refine ⟨_, _, _, rfl, rfl, ?_⟩ | refine ⟨_, _, _, _, rfl, rfl, rfl, ?_⟩ | refine ⟨rfl, ?_⟩ | refine ⟨Nat.le_of_ble_eq_true rfl, ?_⟩ | refine ⟨by decide, ?_⟩)); (conv => whnf))
      refine ⟨s, v, e, rfl, L.vs.any, L.vv.any, L.ve.any, (fun es h => by have := L.wv es h; omega), fun hd ys so nd my g => ?_, fun d hd => ⟨rfl, fun a => ?_⟩⟩
      · exact hN _ ⟨_, _, _, rfl, hP hd ys so nd my g⟩
      · conv => whnf
        refine ⟨rfl, _, rfl, ?_⟩
        conv => whnf
        refine ⟨by show 1 ≤ sizeLine; omega, ?_⟩
        conv => whnf
        refine ⟨rfl, rfl, ?_⟩
        conv => whnf
        refine ⟨by show 3 ≤ sizeLine; omega, ?_⟩
        exact hN _ ⟨_, _, _, rfl, hX d hd⟩
  rintro _ ⟨a0, a1, d, rfl, hd⟩
  exact hd
end
end K01
namespace K01
open PySem PySem.Spec PyProof.Rows L2 L2H Sw Dl Ss
theorem nice_mD {m : Int} (hm : m ≤ 1000) {p : R3} (v : VM m p) : nice (mD p) = true := by
  obtain ⟨c, ec, hc⟩ := v.b
  show ((decide (0 ≤ p.1) && decide (p.1 < 1000)) && (azS p.2 && ((decide (0 ≤ p.3) && decide (p.3 < 1000)) && true))) = true
  have := v.a1
  have := v.d1
  have hb : azS p.2 = true := by rw [ec, azS_c]; exact hc
  rw [decide_eq_true v.a0, decide_eq_true (show p.1 < 1000 by omega), decide_eq_true v.d0, decide_eq_true (show p.3 < 1000 by omega), hb]; rfl
theorem nice_lot {w : Wl} (v : VG w) : nice (lotD w) = true := by
  have h2 : nices (List.map mD w.go) = true := (nices_all _).mpr fun d hd => by
    obtain ⟨p, hp, rfl⟩ := List.mem_map.mp hd
    exact nice_mD (by have := v.c1; omega) (v.g p hp)
  have h3 : nices (List.map D.int w.en) = true := (nices_all _).mpr fun d hd => by
    obtain ⟨p, hp, rfl⟩ := List.mem_map.mp hd
    have := v.e p hp
    have := v.c1
    show (decide (0 ≤ p) && decide (p < 1000)) = true
    rw [decide_eq_true (by omega), decide_eq_true (by omega)]; rfl
  have := v.c0
  have := v.c1
  show ((decide (0 ≤ w.cnt) && decide (w.cnt < 1000)) && (nices _ && (nices _ && true))) = true
  rw [h2, h3, decide_eq_true (by omega), decide_eq_true (by omega)]; rfl
theorem mD_inj {a b : R3} (h : mD a = mD b) : a = b := by
  obtain ⟨a1, a2, a3⟩ := a
  obtain ⟨b1, b2, b3⟩ := b
  have h : D.tup [.int a1, .str a2, .int a3] = D.tup [.int b1, .str b2, .int b3] := h
  cases h; rfl
theorem map_inj {α : Type} {f : α → D} (h : ∀ a b, f a = f b → a = b) : ∀ {as bs : List α}, as.map f = bs.map f → as = bs
  | [], [], _ => rfl
  | [], _ :: _, e => by cases e
  | _ :: _, [], e => by cases e
  | a :: as, b :: bs, e => by
    rw [List.map_cons, List.map_cons] at e
    injection e with e1 e2
    rw [h a b e1, map_inj h e2]
theorem lot_told {w v : Wl} (vw : VG w) (vv : VG v) : decide (shownE (lotD w) = shownE (lotD v)) = wEq w v := by
  obtain ⟨c1, g1, l1⟩ := w
  obtain ⟨c2, g2, l2⟩ := v
  unfold wEq
  rw [Bool.eq_iff_iff, decide_eq_true_eq, shownE_inj (nice_lot vw) (nice_lot vv)]
  simp only [Bool.and_eq_true, decide_eq_true_eq]
  constructor
  · intro h
    have h : D.tup [.int c1, .tup (List.map mD g1), .tup (List.map D.int l1)] = D.tup [.int c2, .tup (List.map mD g2), .tup (List.map D.int l2)] := h
    injection h with h
    injection h with h1 h
    injection h with h2 h
    injection h with h3 h
    injection h1 with h1
    injection h2 with h2
    injection h3 with h3
    exact ⟨h1, map_inj (fun _ _ => mD_inj) h2, map_inj (fun _ _ h => by injection h) h3⟩
  · rintro ⟨rfl, rfl, rfl⟩; rfl
theorem wEq_self (w : Wl) : wEq w w = true := by unfold wEq; simp
theorem fm_none : ∀ xs : List D, xs.filterMap (fun _ => (none : Option D)) = []
  | [] => rfl
  | x :: xs => by rw [List.filterMap_cons_none rfl, fm_none xs]
theorem twin_mem : ∀ {l : List R3} {b : R3}, twin l = some b → b ∈ l
  | a :: b :: r, x, h => by
    have h : (if a.1 = b.1 ∧ a.2 = b.2 then some b else twin (b :: r)) = some x := h
    by_cases e : a.1 = b.1 ∧ a.2 = b.2
    · rw [if_pos e] at h; cases h; simp
    · rw [if_neg e] at h
      exact List.mem_cons_of_mem _ (twin_mem h)
  | [], _, h => by cases h
  | [_], _, h => by cases h
def wordsB (d : D) : Prop := d = .str "size" ∨ d = .str "moves" ∨ d = .str "order" ∨ d = .str "ends"
theorem wrong_mem {m : Int} {v d : D} {r : List D} (h : wrongV m v = d :: r) : r = [] ∧ (wordsB d ∨ ∃ ws, v = .tup ws ∧ d ∈ ws) := by
  cases v with
  | tup ds =>
    have h : (match ds.find? (fun d => !isMove m d) with
      | some d => [d]
      | none => if ascB (ds.map m3Of) then ((twin (ds.map m3Of)).map mD).toList else [.str "order"]) = d :: r := h
    cases e : ds.find? fun d => !isMove m d with
    | some x =>
      rw [e] at h
      injection h with h1 h2
      exact ⟨h2.symm, .inr ⟨ds, rfl, h1 ▸ List.mem_of_find?_eq_some e⟩⟩
    | none =>
      rw [e] at h
      obtain ⟨ps, rfl, v, _⟩ := moves_of (find_none.mp e)
      rw [m3_all] at h
      have h : (if ascB ps then ((twin ps).map mD).toList else [.str "order"]) = d :: r := h
      cases ha : ascB ps with
      | false =>
        rw [ha] at h
        injection h with h1 h2
        exact ⟨h2.symm, .inl (.inr (.inr (.inl h1.symm)))⟩
      | true =>
        rw [ha, if_pos rfl] at h
        cases ht : twin ps with
        | none => rw [ht] at h; cases h
        | some b =>
          rw [ht] at h
          injection h with h1 h2
          exact ⟨h2.symm, .inr ⟨_, rfl, h1 ▸ List.mem_map_of_mem (twin_mem ht)⟩⟩
  | _ =>
    injection h with h1 h2
    exact ⟨h2.symm, .inl (.inr (.inl h1.symm))⟩
theorem due_mem {s v e d : D} {r : List D} (h : dueF s v e = d :: r) : r = [] ∧ (wordsB d ∨ ∃ ws, v = .tup ws ∧ d ∈ ws) := by
  by_cases hs : ∃ m, s = .int m ∧ 1 ≤ m ∧ m ≤ 999
  · obtain ⟨m, rfl, hm⟩ := hs
    rw [dueF_at hm] at h
    cases hw : wrongV m v with
    | cons x y =>
      rw [hw] at h
      injection h with h1 h2
      exact ⟨h2.symm, h1 ▸ (wrong_mem hw).2⟩
    | nil =>
      rw [hw] at h
      have h : (if isEnds m e then [] else [D.str "ends"]) = d :: r := h
      cases he : isEnds m e with
      | true => rw [he] at h; cases h
      | false =>
        rw [he] at h
        injection h with h1 h2
        exact ⟨h2.symm, .inl (.inr (.inr (.inr h1.symm)))⟩
  · have e : dueF s v e = [.str "size"] := by
      cases s with
      | int m => exact if_neg fun h => hs ⟨m, rfl, h⟩
      | _ => rfl
    rw [e] at h
    injection h with h1 h2
    exact ⟨h2.symm, .inl (.inl h1.symm)⟩
theorem due_world {s v e : D} (h : dueF s v e = []) (hv : ∀ es, v = D.tup es → es.length ≤ 900) (he : ∀ es, e = D.tup es → es.length ≤ 900) : ∃ w : Wl, VG w ∧ s = .int w.cnt ∧ v = .tup (List.map mD w.go) ∧ e = .tup (List.map D.int w.en) := by
  by_cases hs : ∃ m, s = .int m ∧ 1 ≤ m ∧ m ≤ 999
  · obtain ⟨m, rfl, hm⟩ := hs
    rw [dueF_at hm] at h
    cases hw : wrongV m v with
    | cons x y => rw [hw] at h; cases h
    | nil =>
      rw [hw] at h
      have h : (if isEnds m e then [] else [D.str "ends"]) = [] := h
      cases he' : isEnds m e with
      | false => rw [he'] at h; cases h
      | true =>
        obtain ⟨es, rfl, h1⟩ : ∃ es, e = .tup es ∧ es.all (isIdx m) = true := by
          cases e with
          | tup es => exact ⟨es, rfl, (Bool.and_eq_true_iff.mp (show (es.all (isIdx m) && _) = true from he')).1⟩
          | _ => cases he'
        obtain ⟨is, rfl, hi, _⟩ := ends_of h1
        obtain ⟨ds, rfl, h2⟩ : ∃ ds, v = .tup ds ∧ ds.all (isMove m) = true := by
          cases v with
          | tup ds =>
            refine ⟨ds, rfl, find_none.mp ?_⟩
            cases b1 : ds.find? fun d => !isMove m d with
            | none => rfl
            | some d =>
              have : wrongV m (.tup ds) = [d] := by
                show (match ds.find? (fun d => !isMove m d) with
                  | some d => [d]
                  | none => if ascB (ds.map m3Of) then ((twin (ds.map m3Of)).map mD).toList else [.str "order"]) = _
                rw [b1]
              rw [this] at hw; cases hw
          | _ => cases hw
        obtain ⟨ps, rfl, hp, _⟩ := moves_of h2
        have l1 := hv _ rfl
        have l2 := he _ rfl
        rw [List.length_map] at l1 l2
        exact ⟨⟨m, ps, is⟩, ⟨hm.1, hm.2, hp, hi, l1, l2⟩, rfl, rfl, rfl⟩
  · have e : dueF s v e = [.str "size"] := by
      cases s with
      | int m => exact if_neg fun h => hs ⟨m, rfl, h⟩
      | _ => rfl
    rw [e] at h
    cases h
/-- a plan that is tried -/
structure Lt (s v e : D) : Prop where
  a : anyV 1 (.tup [s, v, e]) = true
  d : dep (.tup [s, v, e]) ≤ 20
  z : siz (.tup [s, v, e]) ≤ 2500
  wv : ∀ es, v = D.tup es → es.length ≤ 900
  we : ∀ es, e = D.tup es → es.length ≤ 900
theorem Lt.g {s v e : D} (L : Lt s v e) : GoodE (.tup [s, v, e]) := good_any (c := 1) (by decide) L.a (by have := L.d; omega) (by have := L.z; omega)
theorem Lt.lot {s v e : D} (L : Lt s v e) : Lot s v e := by
  have ha := (anyVs_all _).mp (show anyVs 1 [s, v, e] = true from L.a)
  have hz : siz s + (siz v + (siz e + 0)) + 1 ≤ 2500 := L.z
  exact ⟨⟨⟨1, ha s (by simp)⟩, by omega⟩, ⟨⟨1, ha v (by simp)⟩, by omega⟩, ⟨⟨1, ha e (by simp)⟩, by omega⟩, L.wv, L.we⟩
def badD (d : D) : D := .lst [.str "bad", .lst [d], .bl true]
theorem Lt.bad {s v e d : D} (L : Lt s v e) (h : wordsB d ∨ ∃ ws, v = .tup ws ∧ d ∈ ws) : GoodE (.lst [.lst [badD d, badD d], .tup [s, v, e]]) := by
  have ha := (anyVs_all _).mp (show anyVs 1 [s, v, e] = true from L.a)
  have hz : siz s + (siz v + (siz e + 0)) + 1 ≤ 2500 := L.z
  have hd : ∀ x ∈ [s, v, e], dep x ≤ 19 := depS_le.mp (Nat.le_of_succ_le_succ (show depS [s, v, e] + 1 ≤ 20 from L.d))
  have hx : anyV 1 d = true ∧ dep d ≤ 19 ∧ siz d ≤ 2500 := by
    rcases h with h | ⟨ws, rfl, h⟩
    · rcases h with rfl | rfl | rfl | rfl <;> exact ⟨by decide, by decide, by decide⟩
    · have h1 := (anyVs_all _).mp (show anyVs 1 ws = true from ha (.tup ws) (by simp)) d h
      have h2 : depS ws + 1 ≤ 19 := hd (.tup ws) (by simp)
      have h3 := depS_le.mp (Nat.le_refl (depS ws)) d h
      have h4 : sizS ws + 1 ≤ 2500 := by
        have : siz (.tup ws) = sizS ws + 1 := rfl
        omega
      have h5 := sizS_mem h
      exact ⟨h1, by omega, by omega⟩
  have b1 : anyV 1 (badD d) = true := by
    show (true && ((anyV 1 d && true) && (true && true))) = true
    rw [hx.1]; rfl
  have b2 : dep (badD d) ≤ 21 := by
    show depS [.str "bad", .lst [d], .bl true] + 1 ≤ 21
    have : depS [.str "bad", .lst [d], .bl true] ≤ 20 := depS_le.mpr fun x hx' => by
      simp only [List.mem_cons, List.not_mem_nil, or_false] at hx'
      rcases hx' with rfl | rfl | rfl
      · exact Nat.zero_le _
      · show max (dep d) 0 + 1 ≤ 20
        have := hx.2.1
        omega
      · exact Nat.zero_le _
    omega
  have b3 : siz (badD d) ≤ 2510 := by
    show (3 + 1) + ((siz d + 0 + 1) + (1 + 0)) + 1 ≤ 2510
    have := hx.2.2
    omega
  refine good_any (c := 1) (by decide) ?_ ?_ ?_
  · show ((anyV 1 (badD d) && (anyV 1 (badD d) && true)) && (anyV 1 (.tup [s, v, e]) && true)) = true
    rw [b1, L.a]; rfl
  · refine Nat.succ_le_succ (depS_le.mpr fun x hx' => ?_)
    simp only [List.mem_cons, List.not_mem_nil, or_false] at hx'
    rcases hx' with rfl | rfl
    · show depS [badD d, badD d] + 1 ≤ 39
      have : depS [badD d, badD d] ≤ 21 := depS_le.mpr fun x hx' => by
        simp only [List.mem_cons, List.not_mem_nil, or_false] at hx'
        rcases hx' with rfl | rfl <;> exact b2
      omega
    · have := L.d; omega
  · show ((siz (badD d) + (siz (badD d) + 0)) + 1) + (siz (.tup [s, v, e]) + 0) + 1 ≤ 10000
    have := L.z
    omega
end K01
namespace K01
open PySem PySem.Spec PyProof.Rows L2 L2H Sw Dl Ss
def letF : D → Option D
  | .tup [_, y, _] => some y
  | _ => none
theorem letF_all : ∀ l : List R3, (List.map mD l).filterMap letF = l.map fun p => D.str p.2
  | [] => rfl
  | p :: l => by rw [List.map_cons, List.filterMap_cons_some (show letF (mD p) = some (.str p.2) from rfl), letF_all l]; rfl
section
variable {P : Program} {w : World} {K : PySem.W.Frag} {mg : Str → Option Value} {base : Heap} {k : Dek} {dd ll : Addr}
def spRight (C : Addr) : DSp := fun ds n P => ∃ x y, ds = [x, y] ∧ ∃ s v e, x = .tup [s, v, e] ∧ Lt s v e ∧ (∃ w0 z0 g0, y = .tup [lotD w0, trW C w0 z0 g0] ∧ VG w0 ∧ GoodE (lotD w0)) ∧ P (.bl true) n
theorem ok__law_right (T : Tx K mg) : FnD P w K mg base 9 T.f__law_right T.d__law_right ["_law_plan", "_law_mate"] k (spRight T.c_Format) := by
  refine fnd_ofN T.F__law_right sc__law_right (fun ds n P h => ?_) fun cv A out s H E W ds n Q hG hr h => ?_
  · obtain ⟨_, _, rfl, _⟩ := h; rfl
  obtain ⟨_, _, rfl, s, v, e, rfl, L, ⟨w0, z0, g0, rfl, vw0, ge0⟩, hq⟩ := h
  refine ⟨_, (dss_cons (ds_par (i := 2) (j := 3) rfl sc__law_right.nd rfl rfl (by decide) rfl rfl (da_cons (de_callB (dc_reprE hG hr.units) (by rfl) T.b_repr (by decide +kernel) (da_cons (dn 0) da_nil)) (da_cons (de_callK (ok__law_fault T) (hr.mono (by first | decide | omega)) (by rfl) T.g__law_fault T.F__law_fault.kp (bd__law_fault T) (da_cons (dn 0) da_nil)) da_nil)) (fun h => ps_par rfl sc__law_right.nd rfl rfl (by decide) rfl rfl h rfl))
      (dss_cons (ds_set (i := 4) sc__law_right.nd rfl (by first | exact .inl rfl | exact .inr rfl) (DO.de (do_lst (da_cons (de_callK (ok__law_heard T) (hr.mono (by first | decide | omega)) (by rfl) T.g__law_heard T.F__law_heard.kp (bd__law_heard T) (da_cons (dn 0) (da_cons de_bl da_nil))) (da_cons (de_callK (ok__law_heard T) (hr.mono (by first | decide | omega)) (by rfl) T.g__law_heard T.F__law_heard.kp (bd__law_heard T) (da_cons (dn 0) (da_cons de_bl da_nil))) da_nil)))))
      (dss_cons (ds_if (dt_cmp (DOpB.op (do_neL0 hr.units)) (dn 3) (DO.de (do_lst da_nil))) (dss_one (ds_ret (de_and (de_cmp (DOpB.op (do_eq hr.units)) (de_callB (dc_reprE hG hr.units) (by rfl) T.b_repr (by decide +kernel) (da_cons (DO.de (do_lst (da_cons (dn 4) (da_cons (dn 0) da_nil)))) da_nil)) (de_callB (dc_reprE hG hr.units) (by rfl) T.b_repr (by decide +kernel) (da_cons (DO.de (do_lst (da_cons (de_op do_op_mul (DO.de (do_lst (da_cons (DO.de (do_lst (da_cons de_str (da_cons (dn 3) (da_cons de_bl da_nil))))) da_nil))) de_int) (da_cons (dn 0) da_nil)))) da_nil))) (de_one (de_cmp (DOpB.op (do_eq hr.units)) (de_callB (dc_reprE hG hr.units) (by rfl) T.b_repr (by decide +kernel) (da_cons (dn 0) da_nil)) (dn 2)))))) dss_nil)
      (dss_cons (ds_set (i := 5) sc__law_right.nd rfl (by first | exact .inl rfl | exact .inr rfl) (de_join de_str (DO.de (do_sortK rfl (by rfl) T.b_sorted (by rfl) T.b_set (DO.de (do_lc (own := [("_law_near", 7), ("_law_sign", 8), ("_law_far", 9)]) rfl sc__law_right.nd (di_any (de_ix (dn 0) de_int (fun _ _ => rfl))) (blkOk_by (N := ["_law_plan", "_law_mate", "_law_was", "_law_due", "_law_told", "_law_signs", "_law_it", "_law_near", "_law_sign", "_law_far"]) (sc := defScope (top 57)) (by decide +kernel)) (fun _ _ _ _ _ _ => (dg_tup (n := 3) rfl (dgs_cons (dg_name (i := 7) sc__law_right.nd rfl (by first | exact .inl rfl | exact .inr rfl)) (dgs_cons (dg_name (i := 8) sc__law_right.nd rfl (by first | exact .inl rfl | exact .inr rfl)) (dgs_cons (dg_name (i := 9) sc__law_right.nd rfl (by first | exact .inl rfl | exact .inr rfl)) dgs_nil))))) (fun _ _ _ _ _ _ => dts_nil) (fun _ _ _ _ _ _ => (dn 8))))))))
      (dss_cons (ds_for PassesOwn.never rfl (di_any (dn 4)) (dg_name (i := 6) sc__law_right.nd rfl (by first | exact .inl rfl | exact .inr rfl)) (dss_cons (ds_if (dt_w (dw_or (dt_cmp (DOpB.op (do_ne hr.units)) (de_callB (dc_reprE hG hr.units) (by rfl) T.b_repr (by decide +kernel) (da_cons (de_tup (da_cons (de_fld T.insFormat.cl T.no_Format_size (dn 6)) (da_cons (de_fld T.insFormat.cl T.no_Format_moves (dn 6)) (da_cons (de_fld T.insFormat.cl T.no_Format_ends (dn 6)) da_nil)))) da_nil)) (dn 2)) (dw_or (dt_cmp (DOpB.op (do_ne hr.units)) (de_lenI (ok_Format____len__ T) (hr.mono (by first | decide | omega)) T.sp_Format_len T.sf_Format_len (bd_Format____len__ T) (by rfl) T.b_len (dn 6)) (de_ix (dn 0) de_int (fun _ _ => rfl))) (dw_or1 (dt_cmp (DOpB.op (do_ne hr.units)) (de_fld T.insFormat.cl T.no_Format_letters (dn 6)) (dn 5)))))) (dss_one (ds_ret de_bl)) dss_nil)
      (dss_one (ds_if (dt_w (dw_or (dt_ownEq T.insFormat (ok_Format____eq__ T) (hr.mono (by first | decide | omega)) T.sp_Format_eq T.sf_Format_eq (bd_Format____eq__ T) T.nfFormat (dn 6) (dn 0)) (dw_or (dt_ownEq T.insFormat (ok_Format____eq__ T) (hr.mono (by first | decide | omega)) T.sp_Format_eq T.sf_Format_eq (bd_Format____eq__ T) T.nfFormat (dn 6) (dn 2)) (dw_or (dt_ownEq T.insFormat (ok_Format____eq__ T) (hr.mono (by first | decide | omega)) T.sp_Format_eq T.sf_Format_eq (bd_Format____eq__ T) T.nfFormat (dn 6) (de_ix (dn 0) de_int (fun _ _ => rfl))) (dw_or (dt_ownNe T.insFormat (ok_Format____eq__ T) (hr.mono (by first | decide | omega)) T.ne_Format T.sp_Format_eq T.sf_Format_eq (bd_Format____eq__ T) T.nfFormat (dn 6) (de_ix (dn 4) de_int (fun _ _ => rfl))) (dw_or1 (dt_cmp (DOpB.op (do_ne hr.units)) (de_ownEq T.insFormat (ok_Format____eq__ T) (hr.mono (by first | decide | omega)) T.sp_Format_eq T.sf_Format_eq (bd_Format____eq__ T) T.nfFormat (dn 6) (de_ix (dn 1) de_int (fun _ _ => rfl))) (de_cmp (DOpB.op (do_eq hr.units)) (dn 2) (de_callB (dc_reprE hG hr.units) (by rfl) T.b_repr (by decide +kernel) (da_cons (de_ix (dn 1) de_int (fun _ _ => rfl)) da_nil)))))))))) (dss_one (ds_ret de_bl)) dss_nil))))
      (dss_one (ds_ret (de_cmp (DOpB.op (do_eq hr.units)) (de_callB (dc_reprE hG hr.units) (by rfl) T.b_repr (by decide +kernel) (da_cons (dn 0) da_nil)) (dn 2))))))))), ?_⟩
  have lz := line_big
  generalize hMt : D.tup [lotD w0, trW T.c_Format w0 z0 g0] = mt at *
  refine seqE ⟨[some (.v (.tup [s, v, e])), some (.v mt), some (.v (.str (shownE (.tup [s, v, e])))), some (.v (.lst (dueF s v e))), none, none, none, none, none, none], n⟩ (fun N hN => ?_) ?_
  · ((repeat ((conv => whnf); first | refine ⟨(fun z e => by cases e), ?_⟩ | refine ⟨_, _, _, rfl, rfl, ?_⟩ | refine ⟨_, _, _, _, rfl, rfl, rfl, ?_⟩ | refine ⟨rfl, ?_⟩ | refine ⟨Nat.le_of_ble_eq_true rfl, ?_⟩ | refine ⟨by decide, ?_⟩)); (conv => whnf))
    refine ⟨L.g, ?_⟩
    ((repeat ((conv => whnf); first | refine ⟨(fun z e => by cases e), ?_⟩ | refine ⟨_, _, _, rfl, rfl, ?_⟩ | refine ⟨_, _, _, _, rfl, rfl, rfl, ?_⟩ | refine ⟨rfl, ?_⟩ | refine ⟨Nat.le_of_ble_eq_true rfl, ?_⟩ | refine ⟨by decide, ?_⟩)); (conv => whnf))
    refine ⟨_, rfl, s, v, e, rfl, L.lot, ?_⟩
    ((repeat ((conv => whnf); first | refine ⟨(fun z e => by cases e), ?_⟩ | refine ⟨_, _, _, rfl, rfl, ?_⟩ | refine ⟨_, _, _, _, rfl, rfl, rfl, ?_⟩ | refine ⟨rfl, ?_⟩ | refine ⟨Nat.le_of_ble_eq_true rfl, ?_⟩ | refine ⟨by decide, ?_⟩)); (conv => whnf))
    exact hN
  cases hd : dueF s v e with
  | cons d r =>
    obtain ⟨rfl, hw⟩ := due_mem hd
    refine seqE ⟨[some (.v (.tup [s, v, e])), some (.v mt), some (.v (.str (shownE (.tup [s, v, e])))), some (.v (.lst [d])), some (.v (.lst [badD d, badD d])), none, none, none, none, none], n⟩ (fun N hN => ?_) ?_
    · ((repeat ((conv => whnf); first | refine ⟨(fun z e => by cases e), ?_⟩ | refine ⟨_, _, _, rfl, rfl, ?_⟩ | refine ⟨_, _, _, _, rfl, rfl, rfl, ?_⟩ | refine ⟨rfl, ?_⟩ | refine ⟨Nat.le_of_ble_eq_true rfl, ?_⟩ | refine ⟨by decide, ?_⟩)); (conv => whnf))
      refine ⟨_, _, rfl, s, v, e, false, rfl, rfl, L.lot, (fun h => by rw [hd] at h; cases h), fun d1 h1 => ?_⟩
      obtain rfl : d = d1 := by rw [hd] at h1; injection h1
      ((repeat ((conv => whnf); first | refine ⟨(fun z e => by cases e), ?_⟩ | refine ⟨_, _, _, rfl, rfl, ?_⟩ | refine ⟨_, _, _, _, rfl, rfl, rfl, ?_⟩ | refine ⟨rfl, ?_⟩ | refine ⟨Nat.le_of_ble_eq_true rfl, ?_⟩ | refine ⟨by decide, ?_⟩)); (conv => whnf))
      refine ⟨_, _, rfl, s, v, e, true, rfl, rfl, L.lot, (fun h => by rw [hd] at h; cases h), fun d1 h1 => ?_⟩
      obtain rfl : d = d1 := by rw [hd] at h1; injection h1
      ((repeat ((conv => whnf); first | refine ⟨(fun z e => by cases e), ?_⟩ | refine ⟨_, _, _, rfl, rfl, ?_⟩ | refine ⟨_, _, _, _, rfl, rfl, rfl, ?_⟩ | refine ⟨rfl, ?_⟩ | refine ⟨Nat.le_of_ble_eq_true rfl, ?_⟩ | refine ⟨by decide, ?_⟩)); (conv => whnf))
      exact hN
    ((repeat ((conv => whnf); first | refine ⟨(fun z e => by cases e), ?_⟩ | refine ⟨_, _, _, rfl, rfl, ?_⟩ | refine ⟨_, _, _, _, rfl, rfl, rfl, ?_⟩ | refine ⟨rfl, ?_⟩ | refine ⟨Nat.le_of_ble_eq_true rfl, ?_⟩ | refine ⟨by decide, ?_⟩)); (conv => whnf))
    refine ⟨L.bad hw, ?_⟩
    ((repeat ((conv => whnf); first | refine ⟨(fun z e => by cases e), ?_⟩ | refine ⟨_, _, _, rfl, rfl, ?_⟩ | refine ⟨_, _, _, _, rfl, rfl, rfl, ?_⟩ | refine ⟨rfl, ?_⟩ | refine ⟨Nat.le_of_ble_eq_true rfl, ?_⟩ | refine ⟨by decide, ?_⟩)); (conv => whnf))
    refine ⟨⟨by decide, by decide, by show 1 ≤ 1000; decide⟩, ?_⟩
    ((repeat ((conv => whnf); first | refine ⟨(fun z e => by cases e), ?_⟩ | refine ⟨_, _, _, rfl, rfl, ?_⟩ | refine ⟨_, _, _, _, rfl, rfl, rfl, ?_⟩ | refine ⟨rfl, ?_⟩ | refine ⟨Nat.le_of_ble_eq_true rfl, ?_⟩ | refine ⟨by decide, ?_⟩)); (conv => whnf))
    refine ⟨L.bad hw, ?_⟩
    ((repeat ((conv => whnf); first | refine ⟨(fun z e => by cases e), ?_⟩ | refine ⟨_, _, _, rfl, rfl, ?_⟩ | refine ⟨_, _, _, _, rfl, rfl, rfl, ?_⟩ | refine ⟨rfl, ?_⟩ | refine ⟨Nat.le_of_ble_eq_true rfl, ?_⟩ | refine ⟨by decide, ?_⟩)); (conv => whnf))
    refine onB_t (b := decide (shownE (.lst [.lst [badD d, badD d], .tup [s, v, e]]) = shownE (.lst [.lst [badD d, badD d], .tup [s, v, e]]))) (decide_eq_true rfl) ?_
    ((repeat ((conv => whnf); first | refine ⟨(fun z e => by cases e), ?_⟩ | refine ⟨_, _, _, rfl, rfl, ?_⟩ | refine ⟨_, _, _, _, rfl, rfl, rfl, ?_⟩ | refine ⟨rfl, ?_⟩ | refine ⟨Nat.le_of_ble_eq_true rfl, ?_⟩ | refine ⟨by decide, ?_⟩)); (conv => whnf))
    refine ⟨L.g, ?_⟩
    ((repeat ((conv => whnf); first | refine ⟨(fun z e => by cases e), ?_⟩ | refine ⟨_, _, _, rfl, rfl, ?_⟩ | refine ⟨_, _, _, _, rfl, rfl, rfl, ?_⟩ | refine ⟨rfl, ?_⟩ | refine ⟨Nat.le_of_ble_eq_true rfl, ?_⟩ | refine ⟨by decide, ?_⟩)); (conv => whnf))
    generalize shownE (.tup [s, v, e]) = t
    show Q (.bl (decide (t = t))) n
    rw [decide_eq_true rfl]
    exact hq
  | nil =>
    obtain ⟨w, vw, rfl, rfl, rfl⟩ := due_world hd L.wv L.we
    have hd0 := hd
    have vc0 := vw.c0
    have vc1 := vw.c1
    have gl := vw.gl
    refine seqS (fun S' => ∃ (tl : List D) (ys : List Str) (g1 : D), S' = ⟨[some (.v (lotD w)), some (.v mt), some (.v (.str (shownE (lotD w)))), some (.v (.lst [])), some (.v (.lst tl)), none, none, none, none, none], n⟩ ∧ (sortedS ys = true ∧ ys.Nodup ∧ ∀ z, z ∈ ys ↔ z ∈ w.go.map (·.2)) ∧ tl[0]? = some (trW T.c_Format w (Txt.join "" ys) g1) ∧ ∀ d ∈ tl, ∃ g, d = trW T.c_Format w (Txt.join "" ys) g) (fun N hN => ?_) ?_
    · have elets : lets (.tup (List.map mD w.go)) = w.go.map (·.2) := by
        show ((List.map mD w.go).map m3Of).map (·.2) = _
        rw [m3_all]
      ((repeat ((conv => whnf); first | refine ⟨(fun z e => by cases e), ?_⟩ | refine ⟨_, _, _, rfl, rfl, ?_⟩ | refine ⟨_, _, _, _, rfl, rfl, rfl, ?_⟩ | refine ⟨rfl, ?_⟩ | refine ⟨Nat.le_of_ble_eq_true rfl, ?_⟩ | refine ⟨by decide, ?_⟩)); (conv => whnf))
      refine ⟨_, _, rfl, _, _, _, false, rfl, rfl, L.lot, (fun _ ys1 so1 nd1 my1 g1 => ?_), fun d h1 => by rw [hd] at h1; cases h1⟩
      ((repeat ((conv => whnf); first | refine ⟨(fun z e => by cases e), ?_⟩ | refine ⟨_, _, _, rfl, rfl, ?_⟩ | refine ⟨_, _, _, _, rfl, rfl, rfl, ?_⟩ | refine ⟨rfl, ?_⟩ | refine ⟨Nat.le_of_ble_eq_true rfl, ?_⟩ | refine ⟨by decide, ?_⟩)); (conv => whnf))
      refine ⟨_, _, rfl, _, _, _, true, rfl, rfl, L.lot, (fun _ ys2 so2 nd2 my2 g2 => ?_), fun d h1 => by rw [hd] at h1; cases h1⟩
      ((repeat ((conv => whnf); first | refine ⟨(fun z e => by cases e), ?_⟩ | refine ⟨_, _, _, rfl, rfl, ?_⟩ | refine ⟨_, _, _, _, rfl, rfl, rfl, ?_⟩ | refine ⟨rfl, ?_⟩ | refine ⟨Nat.le_of_ble_eq_true rfl, ?_⟩ | refine ⟨by decide, ?_⟩)); (conv => whnf))
      rw [elets] at my1 my2
      have ey : ys2 = ys1 := sorted_one so2 so1 nd2 nd1 fun z => (my2 z).trans (my1 z).symm
      subst ey
      refine hN _ ⟨_, ys2, g1, rfl, ⟨so1, nd1, my1⟩, rfl, fun d h => ?_⟩
      simp only [List.mem_cons, List.not_mem_nil, or_false] at h
      rcases h with rfl | rfl <;> exact ⟨_, rfl⟩
    rintro _ ⟨tl, ys1, g1, rfl, hy1, ht0, htl⟩
    refine seqE ⟨[some (.v (lotD w)), some (.v mt), some (.v (.str (shownE (lotD w)))), some (.v (.lst [])), some (.v (.lst tl)), none, none, none, none, none], n⟩ (fun N hN => ?_) ?_
    · ((repeat ((conv => whnf); first | refine ⟨(fun z e => by cases e), ?_⟩ | refine ⟨_, _, _, rfl, rfl, ?_⟩ | refine ⟨_, _, _, _, rfl, rfl, rfl, ?_⟩ | refine ⟨rfl, ?_⟩ | refine ⟨Nat.le_of_ble_eq_true rfl, ?_⟩ | refine ⟨by decide, ?_⟩)); (conv => whnf))
      exact hN
    refine seqE ⟨[some (.v (lotD w)), some (.v mt), some (.v (.str (shownE (lotD w)))), some (.v (.lst [])), some (.v (.lst tl)), some (.v (.str (Txt.join "" ys1))), none, none, none, none], n⟩ (fun N hN => ?_) ?_
    · conv => whnf
      refine ⟨(fun z e => by cases e), ?_⟩
      conv => whnf
      refine lcL_pure letF _ _ (fun d hd A B hAB => ?_) (by rw [List.length_map]; show 0 + _ ≤ _; omega) ?_
      · obtain ⟨p, hp, rfl⟩ := List.mem_map.mp hd
        ((repeat ((conv => whnf); first | refine ⟨(fun z e => by cases e), ?_⟩ | refine ⟨_, _, _, rfl, rfl, ?_⟩ | refine ⟨_, _, _, _, rfl, rfl, rfl, ?_⟩ | refine ⟨rfl, ?_⟩ | refine ⟨Nat.le_of_ble_eq_true rfl, ?_⟩ | refine ⟨by decide, ?_⟩)); (conv => whnf))
        exact hAB _ rfl
      rw [List.nil_append, letF_all]
      refine .inl ⟨w.go.map (·.2), .inl (by rw [List.map_map]; rfl), by rw [List.length_map]; exact Nat.lt_of_le_of_lt (Nat.succ_le_succ gl) (by decide), fun ys so nd my => ?_⟩
      have ey : ys = ys1 := sorted_one so hy1.1 nd hy1.2.1 fun z => (my z).trans (hy1.2.2 z).symm
      subst ey
      ((repeat ((conv => whnf); first | refine ⟨(fun z e => by cases e), ?_⟩ | refine ⟨_, _, _, rfl, rfl, ?_⟩ | refine ⟨_, _, _, _, rfl, rfl, rfl, ?_⟩ | refine ⟨rfl, ?_⟩ | refine ⟨Nat.le_of_ble_eq_true rfl, ?_⟩ | refine ⟨by decide, ?_⟩)); (conv => whnf))
      have yl : ys.length ≤ 900 := Nat.le_trans (sub_len nd fun z hz => (my z).mp hz) (by rw [List.length_map]; exact gl)
      have y1 : (ys.map (·.length)).sum = ys.length := ones_sum fun z hz => by
        obtain ⟨p, hp, rfl⟩ := List.mem_map.mp ((my z).mp hz)
        obtain ⟨c, ec, _⟩ := (vw.g p hp).b
        rw [ec]; rfl
      refine ⟨ys, txts_map ys, by rw [y1]; show _ + _ * 0 ≤ _; omega, ?_⟩
      ((repeat ((conv => whnf); first | refine ⟨(fun z e => by cases e), ?_⟩ | refine ⟨_, _, _, rfl, rfl, ?_⟩ | refine ⟨_, _, _, _, rfl, rfl, rfl, ?_⟩ | refine ⟨rfl, ?_⟩ | refine ⟨Nat.le_of_ble_eq_true rfl, ?_⟩ | refine ⟨by decide, ?_⟩)); (conv => whnf))
      exact hN
    refine seqS (fun S' => ∃ v6, S' = ⟨[some (.v (lotD w)), some (.v mt), some (.v (.str (shownE (lotD w)))), some (.v (.lst [])), some (.v (.lst tl)), some (.v (.str (Txt.join "" ys1))), v6, none, none, none], n⟩) (fun N hN => ?_) ?_
    · conv => whnf
      refine forL_J (fun (rest : List D) (S : Ds) => ∃ v6, S = ⟨[some (.v (lotD w)), some (.v mt), some (.v (.str (shownE (lotD w)))), some (.v (.lst [])), some (.v (.lst tl)), some (.v (.str (Txt.join "" ys1))), v6, none, none, none], n⟩) _ _ ?_ ?_ ⟨none, rfl⟩
      · rintro d rest S ⟨pre, epre⟩ ⟨v6, rfl⟩ N2 hN2
        obtain ⟨g, rfl⟩ := htl d (by rw [epre]; simp)
        refine gN_go ?_
        refine seqE ⟨[some (.v (lotD w)), some (.v mt), some (.v (.str (shownE (lotD w)))), some (.v (.lst [])), some (.v (.lst tl)), some (.v (.str (Txt.join "" ys1))), some (.v (trW T.c_Format w (Txt.join "" ys1) g)), none, none, none], n⟩ (fun N hN => ?_) ?_
        · ((repeat ((conv => whnf); first | refine ⟨(fun z e => by cases e), ?_⟩ | refine ⟨_, _, _, rfl, rfl, ?_⟩ | refine ⟨_, _, _, _, rfl, rfl, rfl, ?_⟩ | refine ⟨rfl, ?_⟩ | refine ⟨Nat.le_of_ble_eq_true rfl, ?_⟩ | refine ⟨by decide, ?_⟩)); (conv => whnf))
          refine ⟨L.g, ?_⟩
          ((repeat ((conv => whnf); first | refine ⟨(fun z e => by cases e), ?_⟩ | refine ⟨_, _, _, rfl, rfl, ?_⟩ | refine ⟨_, _, _, _, rfl, rfl, rfl, ?_⟩ | refine ⟨rfl, ?_⟩ | refine ⟨Nat.le_of_ble_eq_true rfl, ?_⟩ | refine ⟨by decide, ?_⟩)); (conv => whnf))
          refine onT_f (b := !decide (shownE (lotD w) = shownE (lotD w))) (by simp) ?_
          ((repeat ((conv => whnf); first | refine ⟨(fun z e => by cases e), ?_⟩ | refine ⟨_, _, _, rfl, rfl, ?_⟩ | refine ⟨_, _, _, _, rfl, rfl, rfl, ?_⟩ | refine ⟨rfl, ?_⟩ | refine ⟨Nat.le_of_ble_eq_true rfl, ?_⟩ | refine ⟨by decide, ?_⟩)); (conv => whnf))
          refine ⟨⟨_, _, rfl⟩, _, rfl, w, _, g, rfl, vw, _, rfl, by omega, by omega, ?_⟩
          ((repeat ((conv => whnf); first | refine ⟨(fun z e => by cases e), ?_⟩ | refine ⟨_, _, _, rfl, rfl, ?_⟩ | refine ⟨_, _, _, _, rfl, rfl, rfl, ?_⟩ | refine ⟨rfl, ?_⟩ | refine ⟨Nat.le_of_ble_eq_true rfl, ?_⟩ | refine ⟨by decide, ?_⟩)); (conv => whnf))
          refine onT_f (b := !decide (w.cnt = w.cnt)) (by simp) ?_
          ((repeat ((conv => whnf); first | refine ⟨(fun z e => by cases e), ?_⟩ | refine ⟨_, _, _, rfl, rfl, ?_⟩ | refine ⟨_, _, _, _, rfl, rfl, rfl, ?_⟩ | refine ⟨rfl, ?_⟩ | refine ⟨Nat.le_of_ble_eq_true rfl, ?_⟩ | refine ⟨by decide, ?_⟩)); (conv => whnf))
          refine onT_f (b := !decide (Txt.join "" ys1 = Txt.join "" ys1)) (by simp) ?_
          exact hN
        subst hMt
        have i0 : ixD (.lst tl) (.int 0) = some (trW T.c_Format w (Txt.join "" ys1) g1) := atI_nat (j := 0) ht0
        ((repeat ((conv => whnf); first | refine ⟨(fun z e => by cases e), ?_⟩ | refine ⟨_, _, _, rfl, rfl, ?_⟩ | refine ⟨_, _, _, _, rfl, rfl, rfl, ?_⟩ | refine ⟨rfl, ?_⟩ | refine ⟨Nat.le_of_ble_eq_true rfl, ?_⟩ | refine ⟨by decide, ?_⟩)); (conv => whnf))
        refine ⟨⟨_, _, rfl⟩, trivial, _, _, rfl, w, _, g, rfl, vw, .inr ⟨rfl, ?_⟩⟩
        ((repeat ((conv => whnf); first | refine ⟨(fun z e => by cases e), ?_⟩ | refine ⟨_, _, _, rfl, rfl, ?_⟩ | refine ⟨_, _, _, _, rfl, rfl, rfl, ?_⟩ | refine ⟨rfl, ?_⟩ | refine ⟨Nat.le_of_ble_eq_true rfl, ?_⟩ | refine ⟨by decide, ?_⟩)); (conv => whnf))
        refine ⟨⟨_, _, rfl⟩, trivial, _, _, rfl, w, _, g, rfl, vw, .inr ⟨rfl, ?_⟩⟩
        ((repeat ((conv => whnf); first | refine ⟨(fun z e => by cases e), ?_⟩ | refine ⟨_, _, _, rfl, rfl, ?_⟩ | refine ⟨_, _, _, _, rfl, rfl, rfl, ?_⟩ | refine ⟨rfl, ?_⟩ | refine ⟨Nat.le_of_ble_eq_true rfl, ?_⟩ | refine ⟨by decide, ?_⟩)); (conv => whnf))
        refine ⟨⟨_, _, rfl⟩, trivial, _, _, rfl, w, _, g, rfl, vw, .inr ⟨rfl, ?_⟩⟩
        ((repeat ((conv => whnf); first | refine ⟨(fun z e => by cases e), ?_⟩ | refine ⟨_, _, _, rfl, rfl, ?_⟩ | refine ⟨_, _, _, _, rfl, rfl, rfl, ?_⟩ | refine ⟨rfl, ?_⟩ | refine ⟨Nat.le_of_ble_eq_true rfl, ?_⟩ | refine ⟨by decide, ?_⟩)); (conv => whnf))
        rw [i0]
        ((repeat ((conv => whnf); first | refine ⟨(fun z e => by cases e), ?_⟩ | refine ⟨_, _, _, rfl, rfl, ?_⟩ | refine ⟨_, _, _, _, rfl, rfl, rfl, ?_⟩ | refine ⟨rfl, ?_⟩ | refine ⟨Nat.le_of_ble_eq_true rfl, ?_⟩ | refine ⟨by decide, ?_⟩)); (conv => whnf))
        refine ⟨⟨_, _, rfl⟩, rfl, _, _, rfl, w, _, g, rfl, vw, .inl ⟨w, _, g1, rfl, vw, ?_⟩⟩
        rw [wEq_self]
        refine ⟨true, rfl, ?_⟩
        ((repeat ((conv => whnf); first | refine ⟨(fun z e => by cases e), ?_⟩ | refine ⟨_, _, _, rfl, rfl, ?_⟩ | refine ⟨_, _, _, _, rfl, rfl, rfl, ?_⟩ | refine ⟨rfl, ?_⟩ | refine ⟨Nat.le_of_ble_eq_true rfl, ?_⟩ | refine ⟨by decide, ?_⟩)); (conv => whnf))
        refine ⟨⟨_, _, rfl⟩, rfl, _, _, rfl, w, _, g, rfl, vw, .inl ⟨w0, _, g0, rfl, vw0, ?_⟩⟩
        ((repeat ((conv => whnf); first | refine ⟨(fun z e => by cases e), ?_⟩ | refine ⟨_, _, _, rfl, rfl, ?_⟩ | refine ⟨_, _, _, _, rfl, rfl, rfl, ?_⟩ | refine ⟨rfl, ?_⟩ | refine ⟨Nat.le_of_ble_eq_true rfl, ?_⟩ | refine ⟨by decide, ?_⟩)); (conv => whnf))
        refine ⟨ge0, ?_⟩
        ((repeat ((conv => whnf); first | refine ⟨(fun z e => by cases e), ?_⟩ | refine ⟨_, _, _, rfl, rfl, ?_⟩ | refine ⟨_, _, _, _, rfl, rfl, rfl, ?_⟩ | refine ⟨rfl, ?_⟩ | refine ⟨Nat.le_of_ble_eq_true rfl, ?_⟩ | refine ⟨by decide, ?_⟩)); (conv => whnf))
        refine onT_f (b := !decide (wEq w w0 = decide (shownE (lotD w) = shownE (lotD w0)))) (by rw [lot_told vw vw0]; simp) ?_
        exact hN2 _ ⟨_, rfl⟩
      · rintro S ⟨v6, rfl⟩
        exact hN _ ⟨v6, rfl⟩
    rintro _ ⟨v6, rfl⟩
    ((repeat ((conv => whnf); first | refine ⟨(fun z e => by cases e), ?_⟩ | refine ⟨_, _, _, rfl, rfl, ?_⟩ | refine ⟨_, _, _, _, rfl, rfl, rfl, ?_⟩ | refine ⟨rfl, ?_⟩ | refine ⟨Nat.le_of_ble_eq_true rfl, ?_⟩ | refine ⟨by decide, ?_⟩)); (conv => whnf))
    refine ⟨L.g, ?_⟩
    ((repeat ((conv => whnf); first | refine ⟨(fun z e => by cases e), ?_⟩ | refine ⟨_, _, _, rfl, rfl, ?_⟩ | refine ⟨_, _, _, _, rfl, rfl, rfl, ?_⟩ | refine ⟨rfl, ?_⟩ | refine ⟨Nat.le_of_ble_eq_true rfl, ?_⟩ | refine ⟨by decide, ?_⟩)); (conv => whnf))
    generalize shownE (lotD w) = t
    show Q (.bl (decide (t = t))) n
    rw [decide_eq_true rfl]
    exact hq
end
end K01
namespace K01
open PySem PySem.Spec PyProof.Rows L2 L2H Sw Dl Ss
/-- nothing is raised -/
theorem tkN {kk : Dek} {X : Cx} {W : Wd kk} : L2N.Takes X (wxD W X.K X.N.length fun _ _ _ _ => False) := fun u s' ⟨_, _, _, _, _, _, _, _, _, _, _, _, _, _, _, _, w⟩ => by
  obtain ⟨_, _, _, _, _, _, _, _, _, _, _, _, _, hf⟩ := w
  exact hf.elim
def Gl (x : D) : Prop := ∃ s v e, x = .tup [s, v, e] ∧ Lt s v e
theorem lt_rb {i : Nat} {s v e : D} (hi : i ≤ 2) (hs : Rb i s) (hv : Rb i v) (he : Rb i e) : Lt s v e := by
  have z := Sz_710 i
  refine ⟨?_, ?_, ?_, fun es h => ?_, fun es h => ?_⟩
  · show (anyV 1 s && (anyV 1 v && (anyV 1 e && true))) = true
    rw [hs.a, hv.a, he.a]; rfl
  · have h1 := hs.d
    have h2 := hv.d
    have h3 := he.d
    have : depS [s, v, e] ≤ 19 := depS_le.mpr fun d hd => by
      simp only [List.mem_cons, List.not_mem_nil, or_false] at hd
      rcases hd with rfl | rfl | rfl <;> omega
    show depS [s, v, e] + 1 ≤ 20
    omega
  · have h1 := hs.s
    have h2 := hv.s
    have h3 := he.s
    show siz s + (siz v + (siz e + 0)) + 1 ≤ 2500
    omega
  · subst h; have := (wdt_tup.mp hv.w).1; omega
  · subst h; have := (wdt_tup.mp he.w).1; omega
theorem VW.vg {w : Wl} (v : VW w) : VG w := ⟨v.c0, by have := v.c1; omega, v.g, v.e, by have := v.gl; omega, by have := v.el; omega⟩
theorem VW.due {w : Wl} (v : VW w) : dueF (.int w.cnt) (.tup (List.map mD w.go)) (.tup (List.map D.int w.en)) = [] := by
  rw [dueF_at ⟨v.c0, by have := v.c1; omega⟩, wrong_v v.g, v.ga, if_pos rfl, v.tw, isEnds_v v.e, v.ea]
  rfl
theorem rb_cnt {w : Wl} (v : VW w) : Rb 0 (.int w.cnt) := by
  have := v.c0
  have := v.c1
  exact ⟨decide_eq_true (by omega), Nat.zero_le _, by show 1 ≤ 70; decide, rfl⟩
theorem rb_go {w : Wl} (v : VW w) : Rb 0 (.tup (List.map mD w.go)) := by
  have one : ∀ p ∈ w.go, anyV 1 (mD p) = true ∧ dep (mD p) ≤ 1 ∧ siz (mD p) ≤ 5 ∧ wdt 16 (mD p) = true := fun p hp => by
    have h := v.g p hp
    obtain ⟨c, ec, hc⟩ := h.b
    have c1 := v.c1
    have := h.a0
    have := h.a1
    have := h.d0
    have := h.d1
    have := az_lt hc
    have hl : p.2.length = 1 := by rw [ec]; rfl
    have hs : asc p.2 = true := by rw [ec]; show (decide (c < 128) && true) = true; rw [decide_eq_true (by omega)]; rfl
    refine ⟨?_, Nat.le_refl _, ?_, rfl⟩
    · show (decide (p.1.natAbs ≤ 1 * 10 ^ 40) && (asc p.2 && (decide (p.3.natAbs ≤ 1 * 10 ^ 40) && true))) = true
      rw [decide_eq_true (by omega), decide_eq_true (by omega), hs]; rfl
    · show 1 + (p.2.length + 1 + (1 + 0)) + 1 ≤ 5
      omega
  refine ⟨?_, ?_, ?_, ?_⟩
  · exact (anyVs_all _).mpr fun d hd => by
      obtain ⟨p, hp, rfl⟩ := List.mem_map.mp hd
      exact (one p hp).1
  · have : depS (List.map mD w.go) ≤ 1 := depS_le.mpr fun d hd => by
      obtain ⟨p, hp, rfl⟩ := List.mem_map.mp hd
      exact (one p hp).2.1
    show depS _ + 1 ≤ 3
    omega
  · have := sizS_le (a := 5) (ds := List.map mD w.go) fun d hd => by
      obtain ⟨p, hp, rfl⟩ := List.mem_map.mp hd
      exact (one p hp).2.2.1
    rw [List.length_map] at this
    have := v.gl
    show sizS (List.map mD w.go) + 1 ≤ 70
    omega
  · refine wdt_tup.mpr ⟨by rw [List.length_map]; have := v.gl; omega, fun d hd => ?_⟩
    obtain ⟨p, hp, rfl⟩ := List.mem_map.mp hd
    exact (one p hp).2.2.2
theorem rb_en {w : Wl} (v : VW w) : Rb 0 (.tup (List.map D.int w.en)) := by
  have one : ∀ p ∈ w.en, anyV 1 (.int p) = true := fun p hp => by
    have := v.e p hp
    have := v.c1
    exact decide_eq_true (by omega)
  refine ⟨?_, ?_, ?_, ?_⟩
  · exact (anyVs_all _).mpr fun d hd => by
      obtain ⟨p, hp, rfl⟩ := List.mem_map.mp hd
      exact one p hp
  · have : depS (List.map D.int w.en) ≤ 0 := depS_le.mpr fun d hd => by
      obtain ⟨p, hp, rfl⟩ := List.mem_map.mp hd
      exact Nat.le_refl _
    show depS _ + 1 ≤ 3
    omega
  · have := sizS_le (a := 1) (ds := List.map D.int w.en) fun d hd => by
      obtain ⟨p, hp, rfl⟩ := List.mem_map.mp hd
      exact Nat.le_refl _
    rw [List.length_map] at this
    have := v.el
    show sizS (List.map D.int w.en) + 1 ≤ 70
    omega
  · refine wdt_tup.mpr ⟨by rw [List.length_map]; have := v.el; omega, fun d hd => ?_⟩
    obtain ⟨p, hp, rfl⟩ := List.mem_map.mp hd
    rfl
theorem gl_w {w : Wl} (v : VW w) : Gl (lotD w) := ⟨_, _, _, rfl, lt_rb (i := 0) (by decide) (rb_cnt v) (rb_go v) (rb_en v)⟩
theorem Gl.good {x : D} (h : Gl x) : GoodE x := by
  obtain ⟨s, v, e, rfl, L⟩ := h
  exact L.g
def glB : D → Bool
  | .tup [s, v, e] => anyV 1 (.tup [s, v, e]) && (decide (dep (.tup [s, v, e]) ≤ 20) && (decide (siz (.tup [s, v, e]) ≤ 2500) && ((match v with
    | .tup es => decide (es.length ≤ 900)
    | _ => true) && match e with
    | .tup es => decide (es.length ≤ 900)
    | _ => true)))
  | _ => false
theorem gl_of {x : D} (h : glB x = true) : Gl x := by
  unfold glB at h
  split at h
  · obtain ⟨h1, h⟩ := Bool.and_eq_true_iff.mp h
    obtain ⟨h2, h⟩ := Bool.and_eq_true_iff.mp h
    obtain ⟨h3, h⟩ := Bool.and_eq_true_iff.mp h
    obtain ⟨h4, h5⟩ := Bool.and_eq_true_iff.mp h
    exact ⟨_, _, _, rfl, h1, of_decide_eq_true h2, of_decide_eq_true h3, (fun es e => by subst e; exact of_decide_eq_true h4), fun es e => by subst e; exact of_decide_eq_true h5⟩
  · cases h
theorem gl_all {l : List D} (h : l.all glB = true) : ∀ x ∈ l, Gl x := fun x hx => gl_of (List.all_eq_true.mp h x hx)
theorem gl_app {l r : List D} (h : ∀ x ∈ l, Gl x) (h2 : ∀ x ∈ r, Gl x) : ∀ x ∈ l ++ r, Gl x := fun x hx => (List.mem_append.mp hx).elim (h x) (h2 x)
def handL : List D := [.tup [.int 999, .tup [], .tup [.int 0, .int 998]], .tup [.int 1000, .lst [], .non], .tup [.int 2, .lst [], .int 5], .tup [.int 2, .tup [.tup [.int 1, .str "a", .int 0], .tup [.int 0, .str "a", .int 2]], .tup [.int 5]], .tup [.int 2, .tup [.tup [.int 0, .str "a", .int 1], .tup [.int 0, .str "a", .int 0]], .lst [.int 0]], .tup [.int 2, .tup [.tup [.int 0, .str "a", .int 0], .tup [.int 0, .str "a", .int 1], .tup [.int 1, .str "b", .int 0], .tup [.int 1, .str "b", .int 1]], .lst [.int 0]], .tup [.int 2, .tup [.tup [.int 0, .str "a", .int 0], .tup [.int 0, .str "a", .int 1], .tup [.int 1, .str "a", .bl true]], .tup []]]
theorem hand_gl : ∀ x ∈ handL, Gl x := gl_all (by unfold handL; decide +kernel)
def bareW : Wl := ⟨1, [], []⟩
theorem bare_vw : VW bareW := ⟨by decide, by decide, (fun p hp => by cases hp), (fun p hp => by cases hp), by decide, rfl, by decide, by decide, by decide⟩
section
variable {P : Program} {w : World} {K : PySem.W.Frag} {mg : Str → Option Value} {base : Heap} {k : Dek} {dd ll : Addr}
theorem law_rest (T : Tx K mg) {cv : Value} {A : Around} {out : List Env} {s : Shared} {H : Hp} {E : XK} (hG : (A.deeper (envOfC "law" (defScope (top 58)) s.heap.objs.size T.f_law cv)).guards = some []) (hr : Room 14 (A.deeper (envOfC "law" (defScope (top 58)) s.heap.objs.size T.f_law cv))) (W : Wd (deckD dd ll)) (a : Addr) :
    ∃ t, DSs (cxOf CX0 P w K mg base ["_law_script", "_law_deck_here", "_law_go", "_law_mate", "_law_bare", "_law_some", "_law_plan", "_law_other_plan", "_law_spoilt_here", "_law_sign", "_law_it"] "law" (defScope (top 58)) T.f_law cv A out s H E).nox W ((defBody (top 58)).tail) t ∧
      t { nx := fun _ => False, rt := fun d _ => d = .bl true } ⟨startD ["_law_script", "_law_deck_here", "_law_go", "_law_mate", "_law_bare", "_law_some", "_law_plan", "_law_other_plan", "_law_spoilt_here", "_law_sign", "_law_it"] [.at (.ref a), dkD dd], 0⟩ := by
  have lz := line_big
  refine ⟨_, (dss_cons (ds_for PassesOwn.never rfl (di_range1 (by rfl) T.b_range (da_cons de_int da_nil)) (dg_name (i := 2) sc_law.nd rfl (by first | exact .inl rfl | exact .inr rfl)) (dss_cons (ds_set (i := 6) sc_law.nd rfl (by first | exact .inl rfl | exact .inr rfl) (de_callK (ok__law_drawn T) (hr.mono (by first | decide | omega)) (by rfl) T.g__law_drawn T.F__law_drawn.kp (bd__law_drawn T) (da_cons (dn 1) (da_cons de_int da_nil))))
      (dss_cons (ds_set (i := 3) sc_law.nd rfl (by first | exact .inl rfl | exact .inr rfl) (de_tup (da_cons (dn 6) (da_cons (de_makeX tkN T.mkFormat (ok_init T) (hr.mono (by first | decide | omega)) (by rfl) T.gc_Format (bd_Format____init__ T) (da_cons (de_ix (dn 6) de_int (fun _ _ => rfl)) (da_cons (de_ix (dn 6) de_int (fun _ _ => rfl)) (da_cons (de_ix (dn 6) de_int (fun _ _ => rfl)) da_nil)))) da_nil))))
      (dss_cons (ds_set (i := 7) sc_law.nd rfl (by first | exact .inl rfl | exact .inr rfl) (de_callK (ok__law_drawn T) (hr.mono (by first | decide | omega)) (by rfl) T.g__law_drawn T.F__law_drawn.kp (bd__law_drawn T) (da_cons (dn 1) (da_cons de_int da_nil))))
      (dss_cons (ds_set (i := 8) sc_law.nd rfl (by first | exact .inl rfl | exact .inr rfl) (de_callK (ok__law_spoilt T) (hr.mono (by first | decide | omega)) (by rfl) T.g__law_spoilt T.F__law_spoilt.kp (bd__law_spoilt T) (da_cons (dn 1) (da_cons (dn 6) da_nil))))
      (dss_cons (ds_setO (i := 5) sc_law.nd rfl (by first | exact .inl rfl | exact .inr rfl) (do_lst (da_cons (dn 6) (da_cons (dn 7) (da_cons (dn 8) (da_cons (de_callK (ok__law_spoilt T) (hr.mono (by first | decide | omega)) (by rfl) T.g__law_spoilt T.F__law_spoilt.kp (bd__law_spoilt T) (da_cons (dn 1) (da_cons (dn 8) da_nil))) da_nil))))))
      (dss_one (ds_if (dt_cmp (DOpB.op (do_neL0 hr.units)) (DO.de (do_lc (own := [("_law_it", 10)]) rfl sc_law.nd (di_any (dn 5)) (blkOk_by (N := ["_law_script", "_law_deck_here", "_law_go", "_law_mate", "_law_bare", "_law_some", "_law_plan", "_law_other_plan", "_law_spoilt_here", "_law_sign", "_law_it"]) (sc := defScope (top 58)) (by decide +kernel)) (fun _ _ _ _ _ _ => (dg_name (i := 10) sc_law.nd rfl (by first | exact .inl rfl | exact .inr rfl))) (fun _ _ _ _ _ _ => (dts_one (dt_not (dt_val (de_call hG (ok__law_right T) (hr.mono (by first | decide | omega)) (by rfl) T.g__law_right T.F__law_right.kp (bd__law_right T) (da_cons (dn 10) (da_cons (dn 3) da_nil))))))) (fun _ _ _ _ _ _ => (dn 10)))) (DO.de (do_lst da_nil))) (dss_one (ds_ret de_bl)) dss_nil))))))))
      (dss_cons (ds_set (i := 3) sc_law.nd rfl (by first | exact .inl rfl | exact .inr rfl) (de_tup (da_cons (de_tup (da_cons de_int (da_cons (de_tup da_nil) (da_cons (de_tup da_nil) da_nil)))) (da_cons (de_makeX tkN T.mkFormat (ok_init T) (hr.mono (by first | decide | omega)) (by rfl) T.gc_Format (bd_Format____init__ T) (da_cons de_int (da_cons (de_tup da_nil) (da_cons (de_tup da_nil) da_nil)))) da_nil))))
      (dss_cons (ds_if (dt_cmp (DOpB.op (do_neL0 hr.units)) (DO.de (do_lc (own := [("_law_sign", 9)]) rfl sc_law.nd (di_any de_str) (blkOk_by (N := ["_law_script", "_law_deck_here", "_law_go", "_law_mate", "_law_bare", "_law_some", "_law_plan", "_law_other_plan", "_law_spoilt_here", "_law_sign", "_law_it"]) (sc := defScope (top 58)) (by decide +kernel)) (fun _ _ _ _ _ _ => (dg_name (i := 9) sc_law.nd rfl (by first | exact .inl rfl | exact .inr rfl))) (fun _ _ _ _ _ _ => (dts_one (dt_not (dt_val (de_call hG (ok__law_right T) (hr.mono (by first | decide | omega)) (by rfl) T.g__law_right T.F__law_right.kp (bd__law_right T) (da_cons (de_tup (da_cons de_int (da_cons (de_tup (da_cons (de_tup (da_cons de_int (da_cons (dn 9) (da_cons de_int da_nil)))) da_nil)) (da_cons (de_tup (da_cons de_int da_nil)) da_nil)))) (da_cons (dn 3) da_nil))))))) (fun _ _ _ _ _ _ => (dn 9)))) (DO.de (do_lst da_nil))) (dss_one (ds_ret de_bl)) dss_nil)
      (dss_cons (ds_set (i := 4) sc_law.nd rfl (by first | exact .inl rfl | exact .inr rfl) (de_tup (da_cons (de_tup (da_cons de_int (da_cons (de_tup da_nil) (da_cons (de_tup da_nil) da_nil)))) (da_cons (de_makeX tkN T.mkFormat (ok_init T) (hr.mono (by first | decide | omega)) (by rfl) T.gc_Format (bd_Format____init__ T) (da_cons de_int (da_cons (de_tup da_nil) (da_cons (de_tup da_nil) da_nil)))) da_nil))))
      (dss_cons (ds_setO (i := 5) sc_law.nd rfl (by first | exact .inl rfl | exact .inr rfl) (do_lst (da_cons (de_tup (da_cons de_int (da_cons (de_tup da_nil) (da_cons (de_tup (da_cons de_int (da_cons de_int da_nil))) da_nil)))) (da_cons (de_tup (da_cons de_int (da_cons (DO.de (do_lst da_nil)) (da_cons de_non da_nil)))) (da_cons (de_tup (da_cons de_int (da_cons (DO.de (do_lst da_nil)) (da_cons de_int da_nil)))) (da_cons (de_tup (da_cons de_int (da_cons (de_tup (da_cons (de_tup (da_cons de_int (da_cons de_str (da_cons de_int da_nil)))) (da_cons (de_tup (da_cons de_int (da_cons de_str (da_cons de_int da_nil)))) da_nil))) (da_cons (de_tup (da_cons de_int da_nil)) da_nil)))) da_nil))))))
      (dss_cons (ds_expr (de_append (pv 5) (de_tup (da_cons de_int (da_cons (de_tup (da_cons (de_tup (da_cons de_int (da_cons de_str (da_cons de_int da_nil)))) (da_cons (de_tup (da_cons de_int (da_cons de_str (da_cons de_int da_nil)))) da_nil))) (da_cons (DO.de (do_lst (da_cons de_int da_nil))) da_nil)))) (fun ho ha => pe_bm PySem.F.plainAttrs_list PySem.F.slot_list_append PySem.F.type_list_append mt_append ho ha)))
      (dss_cons (ds_expr (de_append (pv 5) (de_tup (da_cons de_int (da_cons (de_tup (da_cons (de_tup (da_cons de_int (da_cons de_str (da_cons de_int da_nil)))) (da_cons (de_tup (da_cons de_int (da_cons de_str (da_cons de_int da_nil)))) (da_cons (de_tup (da_cons de_int (da_cons de_str (da_cons de_int da_nil)))) (da_cons (de_tup (da_cons de_int (da_cons de_str (da_cons de_int da_nil)))) da_nil))))) (da_cons (DO.de (do_lst (da_cons de_int da_nil))) da_nil)))) (fun ho ha => pe_bm PySem.F.plainAttrs_list PySem.F.slot_list_append PySem.F.type_list_append mt_append ho ha)))
      (dss_cons (ds_expr (de_append (pv 5) (de_tup (da_cons de_int (da_cons (de_tup (da_cons (de_tup (da_cons de_int (da_cons de_str (da_cons de_int da_nil)))) (da_cons (de_tup (da_cons de_int (da_cons de_str (da_cons de_int da_nil)))) (da_cons (de_tup (da_cons de_int (da_cons de_str (da_cons de_bl da_nil)))) da_nil)))) (da_cons (de_tup da_nil) da_nil)))) (fun ho ha => pe_bm PySem.F.plainAttrs_list PySem.F.slot_list_append PySem.F.type_list_append mt_append ho ha)))
      (dss_one (ds_ret (de_cmp (DOpB.op (do_eqL0 hr.units)) (DO.de (do_lc (own := [("_law_it", 10)]) rfl sc_law.nd (di_any (dn 5)) (blkOk_by (N := ["_law_script", "_law_deck_here", "_law_go", "_law_mate", "_law_bare", "_law_some", "_law_plan", "_law_other_plan", "_law_spoilt_here", "_law_sign", "_law_it"]) (sc := defScope (top 58)) (by decide +kernel)) (fun _ _ _ _ _ _ => (dg_name (i := 10) sc_law.nd rfl (by first | exact .inl rfl | exact .inr rfl))) (fun _ _ _ _ _ _ => (dts_one (dt_not (dt_val (de_call hG (ok__law_right T) (hr.mono (by first | decide | omega)) (by rfl) T.g__law_right T.F__law_right.kp (bd__law_right T) (da_cons (dn 10) (da_cons (dn 4) da_nil))))))) (fun _ _ _ _ _ _ => (dn 10)))) (DO.de (do_lst da_nil))))))))))))), ?_⟩
  refine seqS (fun S' => ∃ (v2 v3 v5 v6 v7 v8 : Option Sl) (dr : Int), S' = ⟨[some (.v (.at (.ref a))), some (.v (dkD dd)), v2, v3, none, v5, v6, v7, v8, none, none], dr⟩) (fun N hN => ?_) ?_
  · conv => whnf
    refine ⟨by decide, ?_⟩
    refine forL_J (fun (ds' : List D) (S' : Ds) => ∃ (v2 v3 v5 v6 v7 v8 : Option Sl) (dr : Int), S' = ⟨[some (.v (.at (.ref a))), some (.v (dkD dd)), v2, v3, none, v5, v6, v7, v8, none, none], dr⟩ ∧ dr + 200 * (ds'.length : Int) ≤ 1200) _ _ ?_ ?_
      ⟨none, none, none, none, none, none, 0, rfl, by decide⟩
    · rintro dt ds' S - ⟨v2, v3, v5, v6, v7, v8, dr, rfl, hdr⟩ N2 hN2
      rw [List.length_cons] at hdr
      refine gN_go ?_
      refine seqS (fun S' => ∃ (wl : Wl) (n1 : Int), S' = ⟨[some (.v (.at (.ref a))), some (.v (dkD dd)), some (.v dt), v3, none, v5, some (.v (lotD wl)), v7, v8, none, none], n1⟩ ∧ VW wl ∧ n1 ≤ dr + 40) (fun N3 hN3 => ?_) ?_
      · conv => whnf
        refine ⟨_, _, rfl, rfl, 4, rfl, by decide, by decide, by first | omega | (dsimp only; omega), fun wl n1 vw hn1 => ?_⟩
        exact hN3 _ ⟨wl, n1, rfl, vw, hn1⟩
      rintro _ ⟨wl, n1, rfl, vw, hn1⟩
      have vg := vw.vg
      have gl1 := gl_w vw
      refine seqS (fun S' => ∃ (z : Str) (g : D), S' = ⟨[some (.v (.at (.ref a))), some (.v (dkD dd)), some (.v dt), some (.v (.tup [lotD wl, trW T.c_Format wl z g])), none, v5, some (.v (lotD wl)), v7, v8, none, none], n1⟩) (fun N3 hN3 => ?_) ?_
      · have LL : Lt (.int wl.cnt) (.tup (List.map mD wl.go)) (.tup (List.map D.int wl.en)) := lt_rb (i := 0) (by decide) (rb_cnt vw) (rb_go vw) (rb_en vw)
        ((repeat ((conv => whnf); first | refine ⟨(fun z e => by cases e), ?_⟩ | refine ⟨_, _, _, rfl, rfl, ?_⟩ | refine ⟨_, _, _, _, rfl, rfl, rfl, ?_⟩ | refine ⟨rfl, ?_⟩ | refine ⟨Nat.le_of_ble_eq_true rfl, ?_⟩ | refine ⟨by decide, ?_⟩)); (conv => whnf))
        refine ⟨LL.lot.vv.any, LL.lot.ve.any, (fun es h => by have := LL.wv es h; omega), fun _ ys so nd my g => ?_, fun d h => by rw [vw.due] at h; cases h⟩
        ((repeat ((conv => whnf); first | refine ⟨(fun z e => by cases e), ?_⟩ | refine ⟨_, _, _, rfl, rfl, ?_⟩ | refine ⟨_, _, _, _, rfl, rfl, rfl, ?_⟩ | refine ⟨rfl, ?_⟩ | refine ⟨Nat.le_of_ble_eq_true rfl, ?_⟩ | refine ⟨by decide, ?_⟩)); (conv => whnf))
        exact hN3 _ ⟨_, g, rfl⟩
      rintro _ ⟨z, g, rfl⟩
      refine seqS (fun S' => ∃ (w2 : Wl) (n2 : Int), S' = ⟨[some (.v (.at (.ref a))), some (.v (dkD dd)), some (.v dt), some (.v (.tup [lotD wl, trW T.c_Format wl z g])), none, v5, some (.v (lotD wl)), some (.v (lotD w2)), v8, none, none], n2⟩ ∧ VW w2 ∧ n2 ≤ dr + 80) (fun N3 hN3 => ?_) ?_
      · conv => whnf
        refine ⟨_, _, rfl, rfl, 2, rfl, by decide, by decide, by first | omega | (dsimp only; omega), fun w2 n2 vw2 hn2 => ?_⟩
        exact hN3 _ ⟨w2, n2, rfl, vw2, by have h : n2 ≤ n1 + 40 := hn2; omega⟩
      rintro _ ⟨w2, n2, rfl, vw2, hn2⟩
      refine seqS (fun S' => ∃ (s1 b1 c1 : D) (n3 : Int), S' = ⟨[some (.v (.at (.ref a))), some (.v (dkD dd)), some (.v dt), some (.v (.tup [lotD wl, trW T.c_Format wl z g])), none, v5, some (.v (lotD wl)), some (.v (lotD w2)), some (.v (.tup [s1, b1, c1])), none, none], n3⟩ ∧ Rb 1 s1 ∧ Rb 1 b1 ∧ Rb 1 c1 ∧ n3 ≤ dr + 90) (fun N3 hN3 => ?_) ?_
      · conv => whnf
        refine ⟨_, _, rfl, rfl, _, _, _, rfl, 0, by decide, rb_cnt vw, rb_go vw, rb_en vw, by first | omega | (dsimp only; omega), fun s1 b1 c1 n3 h1 h2 h3 hn3 => ?_⟩
        exact hN3 _ ⟨s1, b1, c1, n3, rfl, h1, h2, h3, by have h : n3 ≤ n2 + 10 := hn3; omega⟩
      rintro _ ⟨s1, b1, c1, n3, rfl, h1, h2, h3, hn3⟩
      refine seqS (fun S' => ∃ (l : List D) (n4 : Int), S' = ⟨[some (.v (.at (.ref a))), some (.v (dkD dd)), some (.v dt), some (.v (.tup [lotD wl, trW T.c_Format wl z g])), none, some (.o (.lst l)), some (.v (lotD wl)), some (.v (lotD w2)), some (.v (.tup [s1, b1, c1])), none, none], n4⟩ ∧ l.length = 4 ∧ (∀ x ∈ l, Gl x) ∧ n4 ≤ dr + 100) (fun N3 hN3 => ?_) ?_
      · ((repeat ((conv => whnf); first | refine ⟨(fun z e => by cases e), ?_⟩ | refine ⟨_, _, _, rfl, rfl, ?_⟩ | refine ⟨_, _, _, _, rfl, rfl, rfl, ?_⟩ | refine ⟨rfl, ?_⟩ | refine ⟨Nat.le_of_ble_eq_true rfl, ?_⟩ | refine ⟨by decide, ?_⟩)); (conv => whnf))
        refine ⟨_, _, rfl, rfl, _, _, _, rfl, 1, by decide, h1, h2, h3, by first | omega | (dsimp only; omega), fun s2 b2 c2 n4 k1 k2 k3 hn4 => ?_⟩
        ((repeat ((conv => whnf); first | refine ⟨(fun z e => by cases e), ?_⟩ | refine ⟨_, _, _, rfl, rfl, ?_⟩ | refine ⟨_, _, _, _, rfl, rfl, rfl, ?_⟩ | refine ⟨rfl, ?_⟩ | refine ⟨Nat.le_of_ble_eq_true rfl, ?_⟩ | refine ⟨by decide, ?_⟩)); (conv => whnf))
        refine hN3 _ ⟨_, n4, rfl, rfl, fun x hx => ?_, by have h : n4 ≤ n3 + 10 := hn4; omega⟩
        simp only [List.mem_cons, List.not_mem_nil, or_false] at hx
        rcases hx with rfl | rfl | rfl | rfl
        · exact gl1
        · exact gl_w vw2
        · exact ⟨_, _, _, rfl, lt_rb (i := 1) (by decide) h1 h2 h3⟩
        · exact ⟨_, _, _, rfl, lt_rb (i := 2) (by decide) k1 k2 k3⟩
      rintro _ ⟨l, n4, rfl, hl, hx, hn4⟩
      conv => whnf
      refine lcL_pure (fun _ => none) _ _ (fun d hd A B hAB => ?_) (by show 0 + _ ≤ _; omega) ?_
      · obtain ⟨s0, v0, e0, rfl, LD⟩ := hx d hd
        ((repeat ((conv => whnf); first | refine ⟨(fun z e => by cases e), ?_⟩ | refine ⟨_, _, _, rfl, rfl, ?_⟩ | refine ⟨_, _, _, _, rfl, rfl, rfl, ?_⟩ | refine ⟨rfl, ?_⟩ | refine ⟨Nat.le_of_ble_eq_true rfl, ?_⟩ | refine ⟨by decide, ?_⟩)); (conv => whnf))
        exact ⟨_, _, rfl, _, _, _, rfl, LD, ⟨wl, z, g, rfl, vg, gl1.good⟩, hAB _ rfl⟩
      · rw [List.nil_append, fm_none]
        ((repeat ((conv => whnf); first | refine ⟨(fun z e => by cases e), ?_⟩ | refine ⟨_, _, _, rfl, rfl, ?_⟩ | refine ⟨_, _, _, _, rfl, rfl, rfl, ?_⟩ | refine ⟨rfl, ?_⟩ | refine ⟨Nat.le_of_ble_eq_true rfl, ?_⟩ | refine ⟨by decide, ?_⟩)); (conv => whnf))
        exact hN2 _ ⟨_, _, _, _, _, _, _, rfl, by first | omega | (dsimp only; omega)⟩
    · rintro S ⟨v2, v3, v5, v6, v7, v8, dr, rfl, hdr⟩
      exact hN _ ⟨v2, v3, v5, v6, v7, v8, dr, rfl⟩
  rintro _ ⟨v2, v3, v5, v6, v7, v8, dr, rfl⟩
  have bv := bare_vw
  have bg := bare_vw.vg
  have bgl := (gl_w bare_vw).good
  refine seqS (fun S' => ∃ (z : Str) (g : D), S' = ⟨[some (.v (.at (.ref a))), some (.v (dkD dd)), v2, some (.v (.tup [lotD bareW, trW T.c_Format bareW z g])), none, v5, v6, v7, v8, none, none], dr⟩) (fun N3 hN3 => ?_) ?_
  · conv => whnf
    repeat (refine ⟨by first | exact Nat.zero_le _ | (show 3 ≤ sizeLine; omega), ?_⟩; (conv => whnf))
    refine ⟨_, _, _, rfl, rfl, rfl, rfl, (fun es h => by injection h with h; subst h; decide), fun _ ys so nd my g => ?_, fun d h => ?_⟩
    · conv => whnf
      refine ⟨by show 2 ≤ sizeLine; omega, ?_⟩
      exact hN3 _ ⟨_, g, rfl⟩
    · have e : dueF (.int 1) (.tup []) (.tup []) = [] := bv.due
      rw [e] at h
      cases h
  rintro _ ⟨z, g, rfl⟩
  refine seqE ⟨[some (.v (.at (.ref a))), some (.v (dkD dd)), v2, some (.v (.tup [lotD bareW, trW T.c_Format bareW z g])), none, v5, v6, v7, v8, none, none], dr⟩ (fun N3 hN3 => ?_) ?_
  · have hzs : (∀ c ∈ ("abcdefghijklmnopqrstuvwxyz" : Str).cps.toList, az c = true) ∧ ("abcdefghijklmnopqrstuvwxyz" : Str).cps.toList.length ≤ 100 := by decide
    generalize ("abcdefghijklmnopqrstuvwxyz" : Str) = zs at hzs ⊢
    conv => whnf
    refine lcL_pure (fun _ => none) _ _ (fun d hd A B hAB => ?_) (by rw [List.length_map]; show 0 + _ ≤ _; omega) ?_
    · obtain ⟨c, hc, rfl⟩ := List.mem_map.mp hd
      have hc := az_lt (hzs.1 c hc)
      have hs : asc (chr c) = true := by
        show (decide (c < 128) && true) = true
        rw [decide_eq_true (by omega)]; rfl
      have LD : Lt (.int 1) (.tup [.tup [.int 0, .str (chr c), .int 0]]) (.tup [.int 0]) := by
        refine ⟨?_, Nat.le_of_ble_eq_true rfl, Nat.le_of_ble_eq_true rfl, (fun es h => by injection h with h; subst h; exact Nat.le_of_ble_eq_true rfl), (fun es h => by injection h with h; subst h; exact Nat.le_of_ble_eq_true rfl)⟩
        show (anyV 1 (.int 1) && (((anyV 1 (.int 0) && (asc (chr c) && (anyV 1 (.int 0) && true))) && true) && ((anyV 1 (.int 0) && true) && true))) = true
        rw [hs]
        decide +kernel
      ((repeat ((conv => whnf); first | refine ⟨(fun z e => by cases e), ?_⟩ | refine ⟨_, _, _, rfl, rfl, ?_⟩ | refine ⟨_, _, _, _, rfl, rfl, rfl, ?_⟩ | refine ⟨rfl, ?_⟩ | refine ⟨Nat.le_of_ble_eq_true rfl, ?_⟩ | refine ⟨by decide, ?_⟩)); (conv => whnf))
      exact ⟨_, _, rfl, _, _, _, rfl, LD, ⟨bareW, z, g, rfl, bg, bgl⟩, hAB _ rfl⟩
    · rw [List.nil_append, fm_none]
      ((repeat ((conv => whnf); first | refine ⟨(fun z e => by cases e), ?_⟩ | refine ⟨_, _, _, rfl, rfl, ?_⟩ | refine ⟨_, _, _, _, rfl, rfl, rfl, ?_⟩ | refine ⟨rfl, ?_⟩ | refine ⟨Nat.le_of_ble_eq_true rfl, ?_⟩ | refine ⟨by decide, ?_⟩)); (conv => whnf))
      exact hN3
  obtain ⟨v3', hv3⟩ : ∃ v3', v3' = some (Sl.v (.tup [lotD bareW, trW T.c_Format bareW z g])) := ⟨_, rfl⟩
  rw [← hv3]
  clear hv3
  refine seqS (fun S' => ∃ (z : Str) (g : D), S' = ⟨[some (.v (.at (.ref a))), some (.v (dkD dd)), v2, v3', some (.v (.tup [lotD bareW, trW T.c_Format bareW z g])), v5, v6, v7, v8, none, none], dr⟩) (fun N3 hN3 => ?_) ?_
  · conv => whnf
    repeat (refine ⟨by first | exact Nat.zero_le _ | (show 3 ≤ sizeLine; omega), ?_⟩; (conv => whnf))
    refine ⟨_, _, _, rfl, rfl, rfl, rfl, (fun es h => by injection h with h; subst h; decide), fun _ ys so nd my g => ?_, fun d h => ?_⟩
    · conv => whnf
      refine ⟨by show 2 ≤ sizeLine; omega, ?_⟩
      exact hN3 _ ⟨_, g, rfl⟩
    · have e : dueF (.int 1) (.tup []) (.tup []) = [] := bv.due
      rw [e] at h
      cases h
  rintro _ ⟨z, g, rfl⟩
  refine seqE ⟨[some (.v (.at (.ref a))), some (.v (dkD dd)), v2, v3', some (.v (.tup [lotD bareW, trW T.c_Format bareW z g])), some (.o (.lst [.tup [.int 999, .tup [], .tup [.int 0, .int 998]], .tup [.int 1000, .lst [], .non], .tup [.int 2, .lst [], .int 5], .tup [.int 2, .tup [.tup [.int 1, .str "a", .int 0], .tup [.int 0, .str "a", .int 2]], .tup [.int 5]]])), v6, v7, v8, none, none], dr⟩ (fun N3 hN3 => ?_) ?_
  · ((repeat ((conv => whnf); first | refine ⟨(fun z e => by cases e), ?_⟩ | refine ⟨_, _, _, rfl, rfl, ?_⟩ | refine ⟨_, _, _, _, rfl, rfl, rfl, ?_⟩ | refine ⟨rfl, ?_⟩ | refine ⟨Nat.le_of_ble_eq_true rfl, ?_⟩ | refine ⟨by decide, ?_⟩)); (conv => whnf))
    exact hN3
  refine seqE ⟨[some (.v (.at (.ref a))), some (.v (dkD dd)), v2, v3', some (.v (.tup [lotD bareW, trW T.c_Format bareW z g])), some (.o (.lst [.tup [.int 999, .tup [], .tup [.int 0, .int 998]], .tup [.int 1000, .lst [], .non], .tup [.int 2, .lst [], .int 5], .tup [.int 2, .tup [.tup [.int 1, .str "a", .int 0], .tup [.int 0, .str "a", .int 2]], .tup [.int 5]], .tup [.int 2, .tup [.tup [.int 0, .str "a", .int 1], .tup [.int 0, .str "a", .int 0]], .lst [.int 0]]])), v6, v7, v8, none, none], dr⟩ (fun N3 hN3 => ?_) ?_
  · ((repeat ((conv => whnf); first | refine ⟨(fun z e => by cases e), ?_⟩ | refine ⟨_, _, _, rfl, rfl, ?_⟩ | refine ⟨_, _, _, _, rfl, rfl, rfl, ?_⟩ | refine ⟨rfl, ?_⟩ | refine ⟨Nat.le_of_ble_eq_true rfl, ?_⟩ | refine ⟨by decide, ?_⟩)); (conv => whnf))
    exact hN3
  refine seqE ⟨[some (.v (.at (.ref a))), some (.v (dkD dd)), v2, v3', some (.v (.tup [lotD bareW, trW T.c_Format bareW z g])), some (.o (.lst [.tup [.int 999, .tup [], .tup [.int 0, .int 998]], .tup [.int 1000, .lst [], .non], .tup [.int 2, .lst [], .int 5], .tup [.int 2, .tup [.tup [.int 1, .str "a", .int 0], .tup [.int 0, .str "a", .int 2]], .tup [.int 5]], .tup [.int 2, .tup [.tup [.int 0, .str "a", .int 1], .tup [.int 0, .str "a", .int 0]], .lst [.int 0]], .tup [.int 2, .tup [.tup [.int 0, .str "a", .int 0], .tup [.int 0, .str "a", .int 1], .tup [.int 1, .str "b", .int 0], .tup [.int 1, .str "b", .int 1]], .lst [.int 0]]])), v6, v7, v8, none, none], dr⟩ (fun N3 hN3 => ?_) ?_
  · ((repeat ((conv => whnf); first | refine ⟨(fun z e => by cases e), ?_⟩ | refine ⟨_, _, _, rfl, rfl, ?_⟩ | refine ⟨_, _, _, _, rfl, rfl, rfl, ?_⟩ | refine ⟨rfl, ?_⟩ | refine ⟨Nat.le_of_ble_eq_true rfl, ?_⟩ | refine ⟨by decide, ?_⟩)); (conv => whnf))
    exact hN3
  refine seqE ⟨[some (.v (.at (.ref a))), some (.v (dkD dd)), v2, v3', some (.v (.tup [lotD bareW, trW T.c_Format bareW z g])), some (.o (.lst handL)), v6, v7, v8, none, none], dr⟩ (fun N3 hN3 => ?_) ?_
  · ((repeat ((conv => whnf); first | refine ⟨(fun z e => by cases e), ?_⟩ | refine ⟨_, _, _, rfl, rfl, ?_⟩ | refine ⟨_, _, _, _, rfl, rfl, rfl, ?_⟩ | refine ⟨rfl, ?_⟩ | refine ⟨Nat.le_of_ble_eq_true rfl, ?_⟩ | refine ⟨by decide, ?_⟩)); (conv => whnf))
    exact hN3
  have hh := hand_gl
  have hlen : handL.length ≤ 60 := by decide
  generalize handL = hl at hh hlen ⊢
  conv => whnf
  refine lcL_pure (fun _ => none) _ _ (fun d hd A B hAB => ?_) (by show 0 + _ ≤ _; omega) ?_
  · obtain ⟨s0, v0, e0, rfl, LD⟩ := hh d hd
    ((repeat ((conv => whnf); first | refine ⟨(fun z e => by cases e), ?_⟩ | refine ⟨_, _, _, rfl, rfl, ?_⟩ | refine ⟨_, _, _, _, rfl, rfl, rfl, ?_⟩ | refine ⟨rfl, ?_⟩ | refine ⟨Nat.le_of_ble_eq_true rfl, ?_⟩ | refine ⟨by decide, ?_⟩)); (conv => whnf))
    exact ⟨_, _, rfl, _, _, _, rfl, LD, ⟨bareW, z, g, rfl, bg, bgl⟩, hAB _ rfl⟩
  · rw [List.nil_append, fm_none]
    ((repeat ((conv => whnf); first | refine ⟨(fun z e => by cases e), ?_⟩ | refine ⟨_, _, _, rfl, rfl, ?_⟩ | refine ⟨_, _, _, _, rfl, rfl, rfl, ?_⟩ | refine ⟨rfl, ?_⟩ | refine ⟨Nat.le_of_ble_eq_true rfl, ?_⟩ | refine ⟨by decide, ?_⟩)); (conv => whnf))
    rfl
end
end K01
namespace K01
open PySem PySem.Spec PyProof.Rows L2 L2H Sw Dl Ss
section
variable {P : Program} {w : World} {K : PySem.W.Frag} {mg : Str → Option Value} {base : Heap}
def spLaw (K : PySem.W.Frag) : Sp := fun vs H Q _ => ∃ (a : Addr) (ns : List Int), vs = [.ref a] ∧ SqL K H a (ns.map V.int) ∧ ns.length ≤ 63 ∧ ∀ H', Q (.bl true) H'
abbrev lawN : List Str := ["_law_script", "_law_deck_here", "_law_go", "_law_mate", "_law_bare", "_law_some", "_law_plan", "_law_other_plan", "_law_spoilt_here", "_law_sign", "_law_it"]
theorem ok_law (T : Tx K mg) : FnG P w K mg base 15 T.f_law T.d_law ["_law_script"] (spLaw K) := by
  refine fng_of T.F_law sc_law (fun vs H Q E ⟨a, ns, h, _⟩ => by rw [h]; rfl) fun cv A out s H vs Q E hG hr ⟨a, ns, hv, hS, hn, hQ⟩ => ?_
  subst hv
  have FD : FnOk P w K mg base CX0 1 T.f__law_deck T.d__law_deck ["_law_script"] (spDeck K) := raw_deck T.F__law_deck T.b_int T.b_list
  refine ⟨_, PSs.nox (pss_cons (ps_set (i := 1) sc_law.nd rfl (by first | exact .inl rfl | exact .inr rfl) (pe_call (E := E0) FD (hr.mono (by decide)) (by rfl) T.g__law_deck T.F__law_deck.kp (bd__law_deck T) .nil pass0 (pa_cons (pv 0) pa_nil)))
    (t := fun D σ H => _) (u := fun D σ H => ∃ (d l : Addr) (W : Wd (deckD d l)) (t : DST), DSs (cxOf CX0 P w K mg base lawN "law" (defScope (top 58)) T.f_law cv A out s _ E).nox W ((defBody (top 58)).tail) t ∧ liftS W K t D σ H)
    ⟨fun pins s σ H D I ⟨d, l, W, t, h, q⟩ => PSs.run h pins s σ H D I q⟩), ?_⟩
  refine ⟨_, rfl, a, ns, rfl, hS, hn, fun d l ms br H' D hs => ?_⟩
  have hg : ∀ x ∈ (deckD d l).dk, (fun _ => none : Hp) x = none := fun _ _ => rfl
  obtain ⟨t, ht, hq⟩ := law_rest (P := P) (w := w) (base := base) (dd := d) (ll := l) T (cv := cv) (A := A) (out := out) (s := s) (H := H) (E := E) hG hr (Wd.of (deckD d l) (fun _ => none) H' hg) a
  have R0 := rep_start (K := K) (k := deckD d l) (n := 0) (vs := [.ref a, .ref d]) (ds := [.at (.ref a), dkD d]) (N := lawN) (by show 2 ≤ 11; decide) (fun _ _ e => by cases e) hg ⟨ms, br, D⟩ (.cons (.at _) (.cons (.at _) .nil))
  refine ⟨d, l, _, t, ht, _, _, _, R0, hq, ⟨fun _ _ _ _ _ z => z.elim, fun v S' σ H2 G2 u _ hv _ hd => ?_, fun _ _ _ _ _ z => z.elim, fun _ _ _ _ _ z => z.elim⟩⟩
  have hv : v = .bl true := hv
  subst hv
  cases hd
  exact hQ _
end
end K01
namespace K01
open PySem PySem.Spec PyProof.Rows L2 L2H Sw Dl Ss
def recB (K : PySem.W.Frag) (M : Addr) (m : Str) : Bool := match PySem.W.recIn K (He.ma K M m) "property" with
  | some (.ref _ :: _) => true
  | _ => false
def chk (K : PySem.W.Frag) : Bool :=
  (He.eqO (PySem.W.specialIn K (.builtin "object.__class__") "__get__") (some (some (.builtin "getset_descriptor.__get__"))) && (decide (PySem.W.takesIn K (.builtin "object.__class__") = some true) && (xcB K (He.ga K "BadFormat") && (He.eqO (PySem.W.findIn K (.ref (He.ga K "BadFormat")) "__init__") (some (some (.ref (He.ma K (He.ga K "BadFormat") "__init__")))) && (PySem.W.isFn K (.ref (He.ma K (He.ga K "BadFormat") "__init__")) && (decide (PySem.W.exmOne K (.ref (He.ga K "BadFormat")) (.ref (He.ga K "BadFormat")) = some true) && (decide (PySem.W.kitOne K (.ref (He.ga K "BadFormat")) (.ref (He.ga K "StreamError")) = some true) && (PySem.W.plainGet K (He.ga K "Format") Str.empty && (PySem.W.hasDictIn K (He.ga K "Format") && (PySem.W.plainOver K (He.ga K "Format") && (He.eqO (PySem.W.findIn K (.ref (He.ga K "Format")) "__setattr__") (some (some (.builtin "object.__setattr__"))) && (He.eqO (PySem.W.findIn K (.ref (He.ga K "Format")) "__class__") (some (some (.builtin "object.__class__"))) && (decide (PySem.W.mroIn K (He.ga K "Format") (.type "object") = some true) && (PySem.W.makesIn K (He.ga K "Format") && (He.eqO (PySem.W.findIn K (.ref (He.ga K "Format")) "__init__") (some (some (.ref (He.ma K (He.ga K "Format") "__init__")))) && (PySem.W.isFn K (.ref (He.ma K (He.ga K "Format") "__init__")) && (PySem.W.keepIn K (.ref (He.ga K "Format")) && (He.eqO (PySem.W.findIn K (.ref (He.ga K "Format")) "size") (some none) && (He.eqO (PySem.W.findIn K (.ref (He.ga K "Format")) "moves") (some none) && (He.eqO (PySem.W.findIn K (.ref (He.ga K "Format")) "ends") (some none) && (He.eqO (PySem.W.findIn K (.ref (He.ga K "Format")) "letters") (some none) && (He.eqO (PySem.W.findIn K (.ref (He.ga K "Format")) "steps") (some none) && (He.eqO (PySem.W.findIn K (.ref (He.ga K "Format")) "__len__") (some (some (.ref (He.ma K (He.ga K "Format") "__len__")))) && (PySem.W.isFn K (.ref (He.ma K (He.ga K "Format") "__len__")) && (He.eqO (PySem.W.findIn K (.ref (He.ga K "Format")) "__eq__") (some (some (.ref (He.ma K (He.ga K "Format") "__eq__")))) && (PySem.W.isFn K (.ref (He.ma K (He.ga K "Format") "__eq__")) && (He.eqO (PySem.W.findIn K (.ref (He.ga K "Format")) "__ne__") (some (some (.builtin "object.__ne__"))) && (decide (PySem.W.kitOne K (.ref (He.ga K "Format")) (.ref (He.ga K "Format")) = some true) && ((tyNames.all fun n => decide (PySem.W.kitOne K (.type n) (.ref (He.ga K "Format")) = some false)) && (tyNames.all fun n => PySem.W.notFirst K (He.ga K "Format") (.type n)))))))))))))))))))))))))))))))
def hook (n : Nat) (fa : List He.Fa) (fn : List He5.DefA) : PySem.W.Hook where
  α := Bool × He.AlD
  obs := fun s => (chk (He.frG s.heap.get? (He5.asA s.heap.get? n)), He5.obsAG n fa fn s.heap.get?)
  val := fun _ => (true, He5.valA fn)
  says := fun _ h => ∃ K : PySem.W.Frag, K.In h ∧ chk K = true ∧ He5.SaysA fa fn K
  of := fun _ _ e => ⟨_, He.frG_in, congrArg Prod.fst e, congrArg Prod.snd e⟩
  keeps := fun _ _ _ ⟨K, hK, c⟩ k => ⟨K, PySem.W.Frag.In.keeps hK k, c⟩
def dd0 : He5.DefA := ⟨fun K => He.ga K "is_integer", "is_integer", "is_integer", defArgs (top 18), defBody (top 18), defScope (top 18), [], []⟩
def dd1 : He5.DefA := ⟨fun K => He.ga K "is_index", "is_index", "is_index", defArgs (top 19), defBody (top 19), defScope (top 19), [], []⟩
def dd2 : He5.DefA := ⟨fun K => He.ga K "is_letter", "is_letter", "is_letter", defArgs (top 20), defBody (top 20), defScope (top 20), [], []⟩
def dd3 : He5.DefA := ⟨fun K => He.ga K "is_tuple_of", "is_tuple_of", "is_tuple_of", defArgs (top 21), defBody (top 21), defScope (top 21), [], []⟩
def dd4 : He5.DefA := ⟨fun K => He.ga K "is_ascending", "is_ascending", "is_ascending", defArgs (top 22), defBody (top 22), defScope (top 22), [], []⟩
def dd5 : He5.DefA := ⟨fun K => He.ga K "is_move", "is_move", "is_move", defArgs (top 41), defBody (top 41), defScope (top 41), [], []⟩
def dd6 : He5.DefA := ⟨fun K => He.ga K "wrong_moves", "wrong_moves", "wrong_moves", defArgs (top 42), defBody (top 42), defScope (top 42), [], []⟩
def dd7 : He5.DefA := ⟨fun K => He.ga K "is_ends", "is_ends", "is_ends", defArgs (top 43), defBody (top 43), defScope (top 43), [], []⟩
def dd8 : He5.DefA := ⟨fun K => He.ga K "_law_deck", "_law_deck", "_law_deck", defArgs (top 46), defBody (top 46), defScope (top 46), [], []⟩
def dd9 : He5.DefA := ⟨fun K => He.ga K "_law_draw", "_law_draw", "_law_draw", defArgs (top 47), defBody (top 47), defScope (top 47), [], []⟩
def dd10 : He5.DefA := ⟨fun K => He.ga K "_law_pick", "_law_pick", "_law_pick", defArgs (top 48), defBody (top 48), defScope (top 48), [], []⟩
def dd11 : He5.DefA := ⟨fun K => He.ga K "_law_drawn", "_law_drawn", "_law_drawn", defArgs (top 49), defBody (top 49), defScope (top 49), [], []⟩
def dd12 : He5.DefA := ⟨fun K => He.ga K "_law_no_state", "_law_no_state", "_law_no_state", defArgs (top 50), defBody (top 50), defScope (top 50), [], []⟩
def dd13 : He5.DefA := ⟨fun K => He.ga K "_law_spoilt_way", "_law_spoilt_way", "_law_spoilt_way", defArgs (top 51), defBody (top 51), defScope (top 51), [], []⟩
def dd14 : He5.DefA := ⟨fun K => He.ga K "_law_spoilt", "_law_spoilt", "_law_spoilt", defArgs (top 52), defBody (top 52), defScope (top 52), [], []⟩
def dd15 : He5.DefA := ⟨fun K => He.ga K "_law_is_in", "_law_is_in", "_law_is_in", defArgs (top 53), defBody (top 53), defScope (top 53), [], []⟩
def dd16 : He5.DefA := ⟨fun K => He.ga K "_law_is_way", "_law_is_way", "_law_is_way", defArgs (top 54), defBody (top 54), defScope (top 54), [], []⟩
def dd17 : He5.DefA := ⟨fun K => He.ga K "_law_fault", "_law_fault", "_law_fault", defArgs (top 55), defBody (top 55), defScope (top 55), [], []⟩
def dd18 : He5.DefA := ⟨fun K => He.ga K "_law_heard", "_law_heard", "_law_heard", defArgs (top 56), defBody (top 56), defScope (top 56), [], []⟩
def dd19 : He5.DefA := ⟨fun K => He.ga K "_law_right", "_law_right", "_law_right", defArgs (top 57), defBody (top 57), defScope (top 57), [], []⟩
def dd20 : He5.DefA := ⟨fun K => He.ga K "law", "law", "law", defArgs (top 58), defBody (top 58), defScope (top 58), [], []⟩
def dd21 : He5.DefA := ⟨fun K => He.ma K (He.ga K "BadFormat") "__init__", "__init__", "BadFormat.__init__", defArgs (inClass (top 3) 0), defBody (inClass (top 3) 0), defScope (inClass (top 3) 0), [], []⟩
def dd22 : He5.DefA := ⟨fun K => He.ma K (He.ga K "Format") "__init__", "__init__", "Format.__init__", defArgs (inClass (top 44) 0), defBody (inClass (top 44) 0), defScope (inClass (top 44) 0), [], []⟩
def dd23 : He5.DefA := ⟨fun K => He.ma K (He.ga K "Format") "__len__", "__len__", "Format.__len__", defArgs (inClass (top 44) 1), defBody (inClass (top 44) 1), defScope (inClass (top 44) 1), [], []⟩
def dd24 : He5.DefA := ⟨fun K => He.ma K (He.ga K "Format") "__eq__", "__eq__", "Format.__eq__", defArgs (inClass (top 44) 2), defBody (inClass (top 44) 2), defScope (inClass (top 44) 2), [], []⟩
def fn : List He5.DefA := [dd0, dd1, dd2, dd3, dd4, dd5, dd6, dd7, dd8, dd9, dd10, dd11, dd12, dd13, dd14, dd15, dd16, dd17, dd18, dd19, dd20, dd21, dd22, dd23, dd24]
def fa : List He.Fa := [.glo "is_integer", .glo "is_index", .glo "is_letter", .glo "is_tuple_of", .glo "is_ascending", .glo "is_move", .glo "wrong_moves", .glo "is_ends", .glo "_law_deck", .glo "_law_draw", .glo "_law_pick", .glo "_law_drawn", .glo "_law_no_state", .glo "_law_spoilt_way", .glo "_law_spoilt", .glo "_law_is_in", .glo "_law_is_way", .glo "_law_fault", .glo "_law_heard", .glo "_law_right", .glo "law", .glo "StreamError", .glo "BadFormat", .glo "Format", .free "int", .free "str", .free "bool", .free "tuple", .free "isinstance", .free "len", .free "all", .free "range", .free "list", .free "sorted", .free "set", .free "repr", .free "zip"]
abbrev R : PySem.W.OpenRow := PySem.W.OpenLaw.row PySem.Challenge.rw_streamwrights_k01_formats_of_any_value
abbrev hk : PySem.W.Hook := hook 6 fa fn
def ob (s : PySem.W.SharedT) : Bool × He.AlD := (chk (He.frG (HandSHeadRun.getT s) (He5.asA (HandSHeadRun.getT s) 6)), He5.obsAG 6 fa fn (HandSHeadRun.getT s))
theorem ob_eq (s : PySem.W.SharedT) : ob s = hk.obs s.abs := by
  have e : HandSHeadRun.getT s = s.abs.heap.get? := funext (HandSHeadRun.getT_eq s)
  unfold ob
  rw [e] <;> rfl
def others : List Str := (["_wall", "StreamError", "BadFormat", "BadText", "rows_of", "states_met", "states_ending", "classes_of", "finer_classes", "first_states", "numbered_classes", "least_machine", "end_layer", "layer_ahead", "texts_of_length", "is_integer", "is_index", "is_letter", "is_tuple_of", "is_ascending"] : List Str) ++ (["is_word", "DIGITS", "number_written", "format_lines", "size_written", "ends_written", "move_written", "read_format", "format_of_lines", "pairs_met", "pair_behind", "is_chosen", "joined_machine", "is_move", "wrong_moves", "is_ends", "Format", "_law_deck", "_law_draw", "_law_pick"] : List Str) ++ (["_law_drawn", "_law_no_state", "_law_spoilt_way", "_law_spoilt", "_law_is_in", "_law_is_way", "_law_fault", "_law_heard", "_law_right"] : List Str)
theorem run (w : World) : HandSHeadRun.RunEq R (PySem.W.view R.prog [58]) hk ob 60000 others w := by
  intro os
  kernel_rfl
end K01
namespace K01
open PySem PySem.Spec PyProof.Rows L2 L2H Sw Dl Ss
theorem recB_ok {K : PySem.W.Frag} {M : Addr} {m : Str} (h : recB K M m = true) : ∃ rest, PySem.W.recIn K (He.ma K M m) "property" = some (.ref (He5.wf K M "property" m) :: rest) := by
  unfold recB at h
  unfold He5.wf
  split at h
  · rename_i f r e
    exact ⟨r, by rw [e]⟩
  · cases h
theorem facts {P : Program} {w : World} {K : PySem.W.Frag} {h : Heap} {mg : Str → Option Value} {f : Addr} (X : K.In h) (G : h.Ns mainGlobals mg) (hfa : mg ("law" : Str) = some (.ref f)) (hc : chk K = true) (c : He5.SaysA fa fn K) :
    ∃ fd : FuncData, (∀ (s : Shared) (v : Value), BindsTo s fd ⟨[v], []⟩ [("_law_script", v)]) ∧ ∀ base : Heap, K.In base → base.Ns mainGlobals mg → FnG P w K mg base 15 f fd ["_law_script"] (spLaw K) := by
  obtain ⟨fd0, F0⟩ := c.def_ 0 (d := dd0) rfl
  obtain ⟨fd1, F1⟩ := c.def_ 1 (d := dd1) rfl
  obtain ⟨fd2, F2⟩ := c.def_ 2 (d := dd2) rfl
  obtain ⟨fd3, F3⟩ := c.def_ 3 (d := dd3) rfl
  obtain ⟨fd4, F4⟩ := c.def_ 4 (d := dd4) rfl
  obtain ⟨fd5, F5⟩ := c.def_ 5 (d := dd5) rfl
  obtain ⟨fd6, F6⟩ := c.def_ 6 (d := dd6) rfl
  obtain ⟨fd7, F7⟩ := c.def_ 7 (d := dd7) rfl
  obtain ⟨fd8, F8⟩ := c.def_ 8 (d := dd8) rfl
  obtain ⟨fd9, F9⟩ := c.def_ 9 (d := dd9) rfl
  obtain ⟨fd10, F10⟩ := c.def_ 10 (d := dd10) rfl
  obtain ⟨fd11, F11⟩ := c.def_ 11 (d := dd11) rfl
  obtain ⟨fd12, F12⟩ := c.def_ 12 (d := dd12) rfl
  obtain ⟨fd13, F13⟩ := c.def_ 13 (d := dd13) rfl
  obtain ⟨fd14, F14⟩ := c.def_ 14 (d := dd14) rfl
  obtain ⟨fd15, F15⟩ := c.def_ 15 (d := dd15) rfl
  obtain ⟨fd16, F16⟩ := c.def_ 16 (d := dd16) rfl
  obtain ⟨fd17, F17⟩ := c.def_ 17 (d := dd17) rfl
  obtain ⟨fd18, F18⟩ := c.def_ 18 (d := dd18) rfl
  obtain ⟨fd19, F19⟩ := c.def_ 19 (d := dd19) rfl
  obtain ⟨fd20, F20⟩ := c.def_ 20 (d := dd20) rfl
  obtain ⟨fd21, F21⟩ := c.def_ 21 (d := dd21) rfl
  obtain ⟨fd22, F22⟩ := c.def_ 22 (d := dd22) rfl
  obtain ⟨fd23, F23⟩ := c.def_ 23 (d := dd23) rfl
  obtain ⟨fd24, F24⟩ := c.def_ 24 (d := dd24) rfl
  unfold chk at hc
  simp only [Bool.and_eq_true] at hc
  obtain ⟨hn, htk, x_BadFormat, i_BadFormat, fn_BadFormat, exm_BadFormat, kit_BadFormat, g1_Format, g2_Format, g3_Format, g4_Format, ha_Format, hm_Format, mk_Format, i1_Format, i2_Format, kp_Format, no_Format_size, no_Format_moves, no_Format_ends, no_Format_letters, no_Format_steps, sp_Format_len, sf_Format_len, sp_Format_eq, sf_Format_eq, ne_Format, yes_Format, noK_Format, nf_Format⟩ := hc
  have T : ∃ T : Tx K mg, T.f_law = He.ga K "law" ∧ T.d_law = fd20 := ⟨{
    f_is_integer := _
    d_is_integer := fd0
    F_is_integer := F0
    g_is_integer := (He.glo_ok X G (c.fact 0 (f := .glo "is_integer") rfl))
    f_is_index := _
    d_is_index := fd1
    F_is_index := F1
    g_is_index := (He.glo_ok X G (c.fact 1 (f := .glo "is_index") rfl))
    f_is_letter := _
    d_is_letter := fd2
    F_is_letter := F2
    g_is_letter := (He.glo_ok X G (c.fact 2 (f := .glo "is_letter") rfl))
    f_is_tuple_of := _
    d_is_tuple_of := fd3
    F_is_tuple_of := F3
    g_is_tuple_of := (He.glo_ok X G (c.fact 3 (f := .glo "is_tuple_of") rfl))
    f_is_ascending := _
    d_is_ascending := fd4
    F_is_ascending := F4
    g_is_ascending := (He.glo_ok X G (c.fact 4 (f := .glo "is_ascending") rfl))
    f_is_move := _
    d_is_move := fd5
    F_is_move := F5
    g_is_move := (He.glo_ok X G (c.fact 5 (f := .glo "is_move") rfl))
    f_wrong_moves := _
    d_wrong_moves := fd6
    F_wrong_moves := F6
    g_wrong_moves := (He.glo_ok X G (c.fact 6 (f := .glo "wrong_moves") rfl))
    f_is_ends := _
    d_is_ends := fd7
    F_is_ends := F7
    g_is_ends := (He.glo_ok X G (c.fact 7 (f := .glo "is_ends") rfl))
    f__law_deck := _
    d__law_deck := fd8
    F__law_deck := F8
    g__law_deck := (He.glo_ok X G (c.fact 8 (f := .glo "_law_deck") rfl))
    f__law_draw := _
    d__law_draw := fd9
    F__law_draw := F9
    g__law_draw := (He.glo_ok X G (c.fact 9 (f := .glo "_law_draw") rfl))
    f__law_pick := _
    d__law_pick := fd10
    F__law_pick := F10
    g__law_pick := (He.glo_ok X G (c.fact 10 (f := .glo "_law_pick") rfl))
    f__law_drawn := _
    d__law_drawn := fd11
    F__law_drawn := F11
    g__law_drawn := (He.glo_ok X G (c.fact 11 (f := .glo "_law_drawn") rfl))
    f__law_no_state := _
    d__law_no_state := fd12
    F__law_no_state := F12
    g__law_no_state := (He.glo_ok X G (c.fact 12 (f := .glo "_law_no_state") rfl))
    f__law_spoilt_way := _
    d__law_spoilt_way := fd13
    F__law_spoilt_way := F13
    g__law_spoilt_way := (He.glo_ok X G (c.fact 13 (f := .glo "_law_spoilt_way") rfl))
    f__law_spoilt := _
    d__law_spoilt := fd14
    F__law_spoilt := F14
    g__law_spoilt := (He.glo_ok X G (c.fact 14 (f := .glo "_law_spoilt") rfl))
    f__law_is_in := _
    d__law_is_in := fd15
    F__law_is_in := F15
    g__law_is_in := (He.glo_ok X G (c.fact 15 (f := .glo "_law_is_in") rfl))
    f__law_is_way := _
    d__law_is_way := fd16
    F__law_is_way := F16
    g__law_is_way := (He.glo_ok X G (c.fact 16 (f := .glo "_law_is_way") rfl))
    f__law_fault := _
    d__law_fault := fd17
    F__law_fault := F17
    g__law_fault := (He.glo_ok X G (c.fact 17 (f := .glo "_law_fault") rfl))
    f__law_heard := _
    d__law_heard := fd18
    F__law_heard := F18
    g__law_heard := (He.glo_ok X G (c.fact 18 (f := .glo "_law_heard") rfl))
    f__law_right := _
    d__law_right := fd19
    F__law_right := F19
    g__law_right := (He.glo_ok X G (c.fact 19 (f := .glo "_law_right") rfl))
    f_law := _
    d_law := fd20
    F_law := F20
    g_law := (He.glo_ok X G (c.fact 20 (f := .glo "law") rfl))
    f_BadFormat____init__ := _
    d_BadFormat____init__ := fd21
    F_BadFormat____init__ := F21
    f_Format____init__ := _
    d_Format____init__ := fd22
    F_Format____init__ := F22
    f_Format____len__ := _
    d_Format____len__ := fd23
    F_Format____len__ := F23
    f_Format____eq__ := _
    d_Format____eq__ := fd24
    F_Format____eq__ := F24
    b_int := (He.free_ok X G (c.fact 24 (f := .free "int") rfl))
    b_str := (He.free_ok X G (c.fact 25 (f := .free "str") rfl))
    b_bool := (He.free_ok X G (c.fact 26 (f := .free "bool") rfl))
    b_tuple := (He.free_ok X G (c.fact 27 (f := .free "tuple") rfl))
    b_isinstance := (He.free_ok X G (c.fact 28 (f := .free "isinstance") rfl))
    b_len := (He.free_ok X G (c.fact 29 (f := .free "len") rfl))
    b_all := (He.free_ok X G (c.fact 30 (f := .free "all") rfl))
    b_range := (He.free_ok X G (c.fact 31 (f := .free "range") rfl))
    b_list := (He.free_ok X G (c.fact 32 (f := .free "list") rfl))
    b_sorted := (He.free_ok X G (c.fact 33 (f := .free "sorted") rfl))
    b_set := (He.free_ok X G (c.fact 34 (f := .free "set") rfl))
    b_repr := (He.free_ok X G (c.fact 35 (f := .free "repr") rfl))
    b_zip := (He.free_ok X G (c.fact 36 (f := .free "zip") rfl))
    c_StreamError := He.ga K "StreamError"
    gc_StreamError := (He.glo_ok X G (c.fact 21 (f := .glo "StreamError") rfl))
    xG := ⟨He.eqO_ok hn, of_decide_eq_true htk⟩
    c_BadFormat := He.ga K "BadFormat"
    gc_BadFormat := (He.glo_ok X G (c.fact 22 (f := .glo "BadFormat") rfl))
    x_BadFormat := xc_ok x_BadFormat
    i_BadFormat := He.eqO_ok i_BadFormat
    fn_BadFormat := fn_BadFormat
    exm_BadFormat := of_decide_eq_true exm_BadFormat
    kit_BadFormat := of_decide_eq_true kit_BadFormat
    c_Format := He.ga K "Format"
    gc_Format := (He.glo_ok X G (c.fact 23 (f := .glo "Format") rfl))
    insFormat := ⟨⟨g1_Format, g2_Format, g3_Format, He.eqO_ok g4_Format⟩, He.eqO_ok ha_Format, He.eqO_ok hn, of_decide_eq_true htk, of_decide_eq_true hm_Format⟩
    mkFormat := ⟨mk_Format, He.eqO_ok i1_Format, i2_Format, kp_Format⟩
    yesFormat := of_decide_eq_true yes_Format
    noKFormat := fun n hn => of_decide_eq_true (List.all_eq_true.mp noK_Format n hn)
    nfFormat := fun n hn => List.all_eq_true.mp nf_Format n hn
    no_Format_size := He.eqO_ok no_Format_size
    no_Format_moves := He.eqO_ok no_Format_moves
    no_Format_ends := He.eqO_ok no_Format_ends
    no_Format_letters := He.eqO_ok no_Format_letters
    no_Format_steps := He.eqO_ok no_Format_steps
    sp_Format_len := He.eqO_ok sp_Format_len
    sf_Format_len := sf_Format_len
    sp_Format_eq := He.eqO_ok sp_Format_eq
    sf_Format_eq := sf_Format_eq
    ne_Format := He.eqO_ok ne_Format }, rfl, rfl⟩
  obtain ⟨T, e1, e2⟩ := T
  have e := hfa.symm.trans (He.glo_ok X G (c.fact 20 (f := .glo "law") rfl))
  cases e
  have b := FunD.bindsA (ps := ["_law_script"]) F20 fun _ _ _ _ _ _ us hl => match us, hl with | [_], _ => rfl
  refine ⟨fd20, fun s v => b s [v] rfl, fun base _ _ => ?_⟩
  have := ok_law (P := P) (w := w) (base := base) T
  rw [e1, e2] at this
  exact this
end K01
open PySem PySem.W PySem.Calls PyProof.Rows
theorem PySem.Challenge.cw_streamwrights_k01_formats_of_any_value_holds : PySem.Challenge.rw_streamwrights_k01_formats_of_any_value.Holds := by
  w_on; o_law
  refine HandSHeadRun.head_any (r := OpenLaw.row PySem.Challenge.rw_streamwrights_k01_formats_of_any_value) (q := view (OpenLaw.row PySem.Challenge.rw_streamwrights_k01_formats_of_any_value).prog [58]) (H := K01.hk) (ob := K01.ob) (M := 60000) (loose := K01.others) (d := HandSHeadRun.topDef (OpenLaw.row PySem.Challenge.rw_streamwrights_k01_formats_of_any_value).prog 58) (kwd := []) K01.ob_eq
    (by kernel_rfl) (fun s => by kernel_rfl) K01.run (by kernel_rfl) (by kernel_rfl) (by kernel_rfl) (by rfl) (by first | assumption | decide +kernel) (by decide +kernel) ⟨rfl, rfl, rfl, rfl, rfl, by decide +kernel⟩ ?hw ?hc
  case hw => w_witness2
  case hc =>
    refine Sw.walkG (l := PySem.Challenge.rw_streamwrights_k01_formats_of_any_value) (n := 63) (k := 15) (x := "_law_script") rfl (by decide) (by kernel_rfl) ⟨rfl, by decide, by decide⟩ ?F
    intro w mg fa h Y G hmg0
    obtain ⟨K, KX, hchk, c⟩ := Y
    have hmg : mg ("law" : PySem.Str) = some (.ref fa) := by
      have e : (HandSHeadRun.topDef (OpenLaw.row PySem.Challenge.rw_streamwrights_k01_formats_of_any_value).prog 58).name = ("law" : PySem.Str) := by kernel_rfl
      rw [← e]
      exact hmg0
    obtain ⟨fd, hb, hF⟩ := K01.facts (P := (PySem.Challenge.rw_streamwrights_k01_formats_of_any_value).prog) (w := w) KX G hmg hchk c
    exact ⟨K, fd, K01.spLaw K, KX, hb, fun H a ns hl _ hS => ⟨a, ns, rfl, hS, hl, fun _ => rfl⟩, hF⟩
