import PyProof.Rows.All
import Wide.All
import OpenK.AllK
import Wide.FinOn
import Lean
import PyProof.EqAt
import PyProof.EqKinds
import PyProof.TupleCall
import PySem.Challenge.RW_cartelship_k41_whole_long_history
set_option Elab.async false
set_option compiler.extract_closed false
section Hd
open PySem PySem.W PyProof.Rows
namespace PySem.W.Fast
def tw1000662321505670351:=()
def tw10026605065719503897:=()
def tw10095894221667365369:=()
def tw10146569101766770184:=()
def tw10149570385669482864:=()
def tw10151330197121100416:=()
def tw10159399881129095643:=()
def tw10198052994689861382:=()
def tw10206286209542907786:=()
def tw10228342955482612591:=()
def tw10295913840692754127:=()
def tw10297410513487048360:=()
def tw10312438410070409164:=()
def tw10341888390210383824:=()
def tw10373885705245885314:=()
def tw10374632558016547081:=()
def tw10387345722656961088:=()
def tw10388488172074580225:=()
def tw10406584006884427733:=()
def tw10470340158578859262:=()
def tw10510019762269167821:=()
def tw10510056951384868246:=()
def tw10539347186207431242:=()
def tw10551173667578312727:=()
def tw10703794633030969494:=()
def tw10713865542653931438:=()
def tw10741264400317747893:=()
def tw10826640976665885199:=()
def tw10842938092177581297:=()
def tw10851082721055443051:=()
def tw10876078143196172821:=()
def tw10879749546641988924:=()
def tw10886659093417053267:=()
def tw10888863842102328177:=()
def tw10911716485165742097:=()
def tw10921404820163398068:=()
def tw10956520680868813917:=()
def tw10988312798546598065:=()
def tw10988764466652934233:=()
def tw11024694936033576346:=()
def tw11063759124802658401:=()
def tw11066385474520676512:=()
def tw11076892268299887525:=()
def tw11095110211248682772:=()
def tw11112856592854345388:=()
def tw11120740854625124088:=()
def tw11151835277377553703:=()
def tw11153126096140912846:=()
def tw11153475782318119604:=()
def tw11205608169257636508:=()
def tw11207431853666184334:=()
def tw11212356425047092601:=()
def tw11219443903484984970:=()
def tw1125065396945160393:=()
def tw11263768400469242888:=()
def tw11280630913190679075:=()
def tw1129948795310169627:=()
def tw11308061921803828041:=()
def tw11362737164128661484:=()
def tw11368310244458860372:=()
def tw11408881796089955267:=()
def tw11421057715548341654:=()
def tw1142673529048489019:=()
def tw11434409910335936926:=()
def tw11449968299874610285:=()
def tw11468729153070441980:=()
def tw11481637867367846703:=()
def tw11513857634932158529:=()
def tw11525993766095887173:=()
def tw11657350159256941575:=()
def tw11662115353561507501:=()
def tw11692469974320434101:=()
def tw11707130962622978684:=()
def tw11738243743197964597:=()
def tw11766667032028208565:=()
def tw11788636936952823106:=()
def tw1180504863943622396:=()
def tw1181674027530198351:=()
def tw11823594873375168262:=()
def tw11824586356888161845:=()
def tw11844019762684407370:=()
def tw11853640710764476214:=()
def tw11856988165776242773:=()
def tw11859619671507778021:=()
def tw11898673842065290130:=()
def tw11907897558876765624:=()
def tw11911167908941700269:=()
def tw1191606094355005428:=()
def tw11962351593759143498:=()
def tw12003660372656728261:=()
def tw12020253756985099128:=()
def tw12041797014711123256:=()
def tw1205274952441263945:=()
def tw12053924596057091436:=()
def tw1205604411410820431:=()
def tw12058884036946728934:=()
def tw12064304430848566033:=()
def tw1207101557538958131:=()
def tw12076989928817844590:=()
def tw12091130801917272685:=()
def tw12132596417379514657:=()
def tw12151077715039277381:=()
def tw12182174808115992843:=()
def tw12188032599808994241:=()
def tw12188683656060986497:=()
def tw12269216009862288129:=()
def tw12297992134047619483:=()
def tw12298192366917762067:=()
def tw12314708539913122752:=()
def tw12315944733273679750:=()
def tw12325864989022198202:=()
def tw12330612334027959195:=()
def tw123454888095987114:=()
def tw12360917755211006479:=()
def tw12362610545917648234:=()
def tw12382822922155266910:=()
def tw12393862125047025020:=()
def tw12396662096508845406:=()
def tw12408111787983249662:=()
def tw12435058653956393420:=()
def tw12441744018607269044:=()
def tw12459912946257978736:=()
def tw12477129341811645039:=()
def tw12488014758255163090:=()
def tw12524954882073270795:=()
def tw12528533614272120300:=()
def tw12542895121996172375:=()
def tw12549542988036985293:=()
def tw12550775161083096063:=()
def tw12601900475763903673:=()
def tw12627051441459223148:=()
def tw12669407529647801677:=()
def tw12681666616541194006:=()
def tw12717557048674177747:=()
def tw12727641955093265886:=()
def tw12732229965196715158:=()
def tw12740759652641322565:=()
def tw12750670339961964742:=()
def tw12768989823518198380:=()
def tw12772213712371865176:=()
def tw12826555694032677247:=()
def tw12876709506271813870:=()
def tw12901003280762261817:=()
def tw12930229547647579594:=()
def tw1293241653719404408:=()
def tw12936088452001202715:=()
def tw12960429369202013873:=()
def tw13032259773685033708:=()
def tw13034982811429478159:=()
def tw13037224057902187189:=()
def tw13037599305520519465:=()
def tw1303901927050219478:=()
def tw13053770412826190925:=()
def tw13055953723892786844:=()
def tw13073492499399858440:=()
def tw13082796549270168242:=()
def tw13127508451798649013:=()
def tw13134858744069518954:=()
def tw13142635158332540280:=()
def tw13164499291161521807:=()
def tw13257283266767686631:=()
def tw1329382545583022102:=()
def tw13303234937177203706:=()
def tw13307065042914920193:=()
def tw13345342141187717317:=()
def tw13348088958985639553:=()
def tw13349420017058727143:=()
def tw13366278800048369731:=()
def tw13367274342830030513:=()
def tw13374226786849659508:=()
def tw13384656265869573321:=()
def tw13385558918117058561:=()
def tw13394580363473044415:=()
def tw1342123614928995077:=()
def tw13421457143807847188:=()
def tw13437419889732721216:=()
def tw13444670453868202053:=()
def tw13459084325293418506:=()
def tw13465540834166320765:=()
def tw13484562703626004877:=()
def tw134869140600922118:=()
def tw13508144021097492314:=()
def tw13539809779269347639:=()
def tw13547939009206843870:=()
def tw13557862171009465336:=()
def tw13567515925198824819:=()
def tw13631397514672939371:=()
def tw13669536469129627823:=()
def tw13674586047789940208:=()
def tw13705283562680751584:=()
def tw13710940844802916613:=()
def tw13716781843517864737:=()
def tw13757698761724263525:=()
def tw13769103115541136327:=()
def tw1378205811072252300:=()
def tw13810262117814702294:=()
def tw13812277999558781770:=()
def tw13813618637161013713:=()
def tw13851515409511356469:=()
def tw13851971633180934007:=()
def tw13855379610559885079:=()
def tw13913613514976480042:=()
def tw13936439389310444312:=()
def tw13937768818610491111:=()
def tw13953587524928339648:=()
def tw13956191218907399338:=()
def tw140001813534094272:=()
def tw1401067106901849026:=()
def tw14019881755177166336:=()
def tw14022695629967993375:=()
def tw140236481695663071:=()
def tw14028423401847578986:=()
def tw14036186469904095446:=()
def tw1405720946626083897:=()
def tw14074196154385387334:=()
def tw14135006944967825841:=()
def tw14144024108822670751:=()
def tw14154597600763967237:=()
def tw14170518179582410385:=()
def tw14172470266813156586:=()
def tw14201004317487731011:=()
def tw14257035121206530791:=()
def tw14321067358777074657:=()
def tw14329579894275425762:=()
def tw14332157829676619468:=()
def tw14372219517969529114:=()
def tw14383122354028845282:=()
def tw14391293386007564604:=()
def tw14404928986312190071:=()
def tw1442379640649564109:=()
def tw14454166528178196959:=()
def tw14474530201714352570:=()
def tw14522782377427387804:=()
def tw14537775516033599862:=()
def tw14538010974564807823:=()
def tw14540961386073393648:=()
def tw14562155634004365027:=()
def tw14564555370662651082:=()
def tw14594842627406614536:=()
def tw14607143338591219252:=()
def tw14611616552423853409:=()
def tw14625560873407400140:=()
def tw14651306747883248417:=()
def tw14664691819916384248:=()
def tw14689541978594310382:=()
def tw14703100239697439463:=()
def tw14710976976299594304:=()
def tw14727194681476072466:=()
def tw14736888041290939073:=()
def tw1474264761786122189:=()
def tw14746253646979254834:=()
def tw14760874974797668852:=()
def tw14782954611325821827:=()
def tw14785633479632635281:=()
def tw14801369171006070438:=()
def tw14811107726043686439:=()
def tw14827714588952709054:=()
def tw14833712730911297017:=()
def tw14842496431369740429:=()
def tw14845619989558847073:=()
def tw14847308668706973960:=()
def tw14849461344987154502:=()
def tw14859695947638507448:=()
def tw14903569129155370506:=()
def tw14904287247971174143:=()
def tw14904681115217272601:=()
def tw14935467056822913822:=()
def tw14958820412457663293:=()
def tw1495895850433845275:=()
def tw15042883488752021643:=()
def tw15060872555676474952:=()
def tw15127105006835628225:=()
def tw15142666989864626641:=()
def tw15166322114958858414:=()
def tw15171223727094530161:=()
def tw15214748959534726111:=()
def tw15227483606004533461:=()
def tw15235614512728720:=()
def tw15240619367488684849:=()
def tw15251835097244881130:=()
def tw15254633091992210921:=()
def tw1532491051758110099:=()
def tw15326580083554890809:=()
def tw15401437161963490237:=()
def tw15402603294489630176:=()
def tw154272780991502253:=()
def tw15433366417846715934:=()
def tw15438627641174518403:=()
def tw1545724803604235189:=()
def tw15475723433398761304:=()
def tw15481805183316651443:=()
def tw15504105790966721872:=()
def tw15539815450414544023:=()
def tw15540911362017771936:=()
def tw15540960557679751451:=()
def tw15554417296805563061:=()
def tw15565715512253457277:=()
def tw15572387867429868682:=()
def tw15577281813014381367:=()
def tw15582287510790862968:=()
def tw15593559885672580101:=()
def tw15650983165834976151:=()
def tw15685335758407661847:=()
def tw15699961213505342161:=()
def tw15702583709834301711:=()
def tw15733337929971156237:=()
def tw15763482434359817770:=()
def tw15764947353670896545:=()
def tw15771247859494662083:=()
def tw15779231459743154856:=()
def tw15868113528992853466:=()
def tw15870398105094248349:=()
def tw15895094517606616290:=()
def tw15910123707662034135:=()
def tw15925456577456769635:=()
def tw15978794797337165890:=()
def tw16006964320088977360:=()
def tw16035376269474964883:=()
def tw16053306600634468012:=()
def tw1607123104830579860:=()
def tw16077376778456035058:=()
def tw16080672043311297529:=()
def tw16101134707931498060:=()
def tw16103829930404553856:=()
def tw16132249320637822498:=()
def tw16140922888777852060:=()
def tw16145670418848962200:=()
def tw16217903435359918192:=()
def tw16226643914720891334:=()
def tw16247262843940693239:=()
def tw16279288168775177219:=()
def tw16298917771340976007:=()
def tw16378183091871739711:=()
def tw16412085850373738351:=()
def tw16422413458241162112:=()
def tw16453263628727151865:=()
def tw16458534088629783329:=()
def tw16489938334050473467:=()
def tw16583815154217966991:=()
def tw16615150188913437886:=()
def tw1663524305781585820:=()
def tw16654469307462801742:=()
def tw16670193898709178398:=()
def tw16670775579421159206:=()
def tw16681507383918705554:=()
def tw16682895059504647277:=()
def tw16691165463884887630:=()
def tw16721508838639397229:=()
def tw16723463757517087524:=()
def tw16728255500844073214:=()
def tw16746677531222629524:=()
def tw16753820520455620202:=()
def tw16756451883985382160:=()
def tw16790446801558671507:=()
def tw16792556548410726896:=()
def tw16797375974695604193:=()
def tw16839002366802243188:=()
def tw16859961878692490766:=()
def tw16860917588515726111:=()
def tw16902085369446701243:=()
def tw16902440903046159558:=()
def tw1692201390411429781:=()
def tw16925712312323332580:=()
def tw16947231599799070506:=()
def tw16955839230299176341:=()
def tw17016834523296244275:=()
def tw17029562028150658980:=()
def tw17072688794708867480:=()
def tw17079817176256170043:=()
def tw17082689572870858151:=()
def tw17160835175205238506:=()
def tw17163426234232328066:=()
def tw17170472223608059050:=()
def tw1717767836212652739:=()
def tw17184031218471190783:=()
def tw17187875760726034783:=()
def tw17214186515701724070:=()
def tw1725486776273817318:=()
def tw17261404542052806724:=()
def tw17271881437230615512:=()
def tw172746767574481773:=()
def tw17284588472162393981:=()
def tw17292613610259460706:=()
def tw17312402878845073609:=()
def tw17318462890700432884:=()
def tw17334828202450815106:=()
def tw17348111734160510231:=()
def tw17382457898008728272:=()
def tw17410218998227585676:=()
def tw17426491299859156930:=()
def tw1745904855532632988:=()
def tw1746151400102762189:=()
def tw17499849576073844966:=()
def tw17508347553164502932:=()
def tw17512793052788017329:=()
def tw17558320327384617127:=()
def tw17590705303994421779:=()
def tw17590876675597686902:=()
def tw17614877247268290040:=()
def tw17632668173026273278:=()
def tw17678831435119133177:=()
def tw17694573340227235524:=()
def tw17696404316872724479:=()
def tw17713387462200973399:=()
def tw17760279517084355780:=()
def tw17862349074038704544:=()
def tw17877845533520812795:=()
def tw17883462748017686043:=()
def tw17916429707943930468:=()
def tw17946048357616127039:=()
def tw17963105932079019327:=()
def tw17980500129456985241:=()
def tw17986951261819808105:=()
def tw18003772858949239459:=()
def tw18031968618487185184:=()
def tw1804834754348979943:=()
def tw18073898193381586223:=()
def tw18095796173783872564:=()
def tw18101783494082082527:=()
def tw18105302477358141223:=()
def tw18220031379085947620:=()
def tw18248855084332350957:=()
def tw182723221234572337:=()
def tw1828242887104783695:=()
def tw18293242582946804979:=()
def tw18328257000508772394:=()
def tw18333273249017474000:=()
def tw18335596039185421423:=()
def tw1835071406663858368:=()
def tw18352723725473834589:=()
def tw18361725300881549022:=()
def tw18367749455379333440:=()
def tw18383651708701053236:=()
def tw18384110700954362821:=()
def tw1840220198017710270:=()
def tw18402647697222807634:=()
def tw18402876211720106240:=()
def tw1848955828906020544:=()
def tw1852895219884940193:=()
def tw1866716027138748530:=()
def tw1886142198274157871:=()
def tw1887573119177674980:=()
def tw1891733041441978011:=()
def tw1915925776726481438:=()
def tw1932759071263863916:=()
def tw1941844328875101383:=()
def tw1972164579936704799:=()
def tw1979317910248211280:=()
def tw1986786360949550309:=()
def tw1998347030407657756:=()
def tw206757683497733573:=()
def tw2078950565319712143:=()
def tw2080317491765294665:=()
def tw2084650752826471497:=()
def tw2087409540819079288:=()
def tw2107523057676978006:=()
def tw211337195705725219:=()
def tw2132029292895624192:=()
def tw2132705950376112619:=()
def tw2144661209622563809:=()
def tw2167315655227761912:=()
def tw2172276787581067923:=()
def tw2213964242967304950:=()
def tw2216542800690825051:=()
def tw2228412568605170491:=()
def tw2244103112122482387:=()
def tw2259672571474061568:=()
def tw2261719852989239553:=()
def tw2310853497090360408:=()
def tw2323540548168759778:=()
def tw2353497105660221152:=()
def tw2358075552688931204:=()
def tw2369294140325686055:=()
def tw2386784164831690217:=()
def tw2392593158011319353:=()
def tw2399617604181995578:=()
def tw2400638427578300857:=()
def tw2424988045566436242:=()
def tw2455152089536381482:=()
def tw2466311954974566718:=()
def tw247591363613054380:=()
def tw2527701527901579348:=()
def tw2528511596961503537:=()
def tw2546767868308347339:=()
def tw256182404569192445:=()
def tw256976265262469064:=()
def tw2570914705882880060:=()
def tw2595585439558603231:=()
def tw2595618661548880785:=()
def tw2597523674469684444:=()
def tw2641800013201688601:=()
def tw2646887283097553488:=()
def tw2652477556369996664:=()
def tw2692750590507578028:=()
def tw2705429854395057126:=()
def tw2708214617527550399:=()
def tw2741014181512449073:=()
def tw2759284407945088205:=()
def tw2781441929908095834:=()
def tw2789304352393801511:=()
def tw28018229315631829:=()
def tw2813801546833155447:=()
def tw2827255003249426055:=()
def tw2846267367221353805:=()
def tw2868442198168577507:=()
def tw2868788209673775175:=()
def tw2894314189432023629:=()
def tw2956708394376553000:=()
def tw296083027919845158:=()
def tw2983127059725616120:=()
def tw2990168724187919761:=()
def tw2997492091776894028:=()
def tw3075201292733833056:=()
def tw3099597729799864441:=()
def tw3110587219445414310:=()
def tw3214969091617688553:=()
def tw3215387988796971590:=()
def tw3233987462203235646:=()
def tw3236729772642805936:=()
def tw3256386593595896250:=()
def tw3270257207059953099:=()
def tw3277229846650655979:=()
def tw3297117884562324255:=()
def tw3300257896294614128:=()
def tw3303267245142563540:=()
def tw3308634892276815127:=()
def tw3365755272349913518:=()
def tw3374319085511977134:=()
def tw3418139289079602111:=()
def tw3419001889969749887:=()
def tw3433779192033484610:=()
def tw3481832742750146777:=()
def tw3500664145855060485:=()
def tw354308444213283272:=()
def tw3543459598558145280:=()
def tw3592811809046731828:=()
def tw3603697650439363286:=()
def tw3604082896382514872:=()
def tw360634875079729221:=()
def tw3641951560692057861:=()
def tw3652199383789512132:=()
def tw3671519592330383864:=()
def tw3717076922277056940:=()
def tw3719891259706897012:=()
def tw372232169308100972:=()
def tw376983999666122830:=()
def tw3801850119919557013:=()
def tw384561282630992784:=()
def tw3846801734645722302:=()
def tw3851428956369438258:=()
def tw3953844824629472508:=()
def tw3971525946579005399:=()
def tw3985964047577975286:=()
def tw3992765435912101610:=()
def tw3997487885647526937:=()
def tw4015202173357781934:=()
def tw402139726102294341:=()
def tw4039707410889071942:=()
def tw4046790133079468173:=()
def tw4051853165826885262:=()
def tw416199725167544944:=()
def tw4163956849929007166:=()
def tw4171853373547519906:=()
def tw4211115844707057057:=()
def tw424408320835691240:=()
def tw4244922878905308065:=()
def tw4267111383703672358:=()
def tw4313010194945074917:=()
def tw4321966507151631593:=()
def tw4323258101793500111:=()
def tw4327107012436481372:=()
def tw4333590680753393835:=()
def tw4334401890000744311:=()
def tw4340673293219707767:=()
def tw4382473104129494423:=()
def tw4408816720484365081:=()
def tw4413860948169739490:=()
def tw4449799235075362730:=()
def tw446995266069924076:=()
def tw4470468392277007246:=()
def tw4470585836733325578:=()
def tw4493901809537577575:=()
def tw4514232752302053791:=()
def tw4517560463748656503:=()
def tw4524658085876675188:=()
def tw4545961482378311905:=()
def tw4561898282857576226:=()
def tw4565167180653195659:=()
def tw463774138113389760:=()
def tw4683681711962371626:=()
def tw4684226298888400098:=()
def tw4688777705208705752:=()
def tw4693966885379303072:=()
def tw4699756791338806529:=()
def tw473948556099728814:=()
def tw4757880891971583632:=()
def tw4776297677400877519:=()
def tw4784223225213183366:=()
def tw4804111812005502284:=()
def tw4849480874435393781:=()
def tw4858918184162951299:=()
def tw4860023922305330110:=()
def tw4884199854448574:=()
def tw4903002758410956813:=()
def tw4906484309439969231:=()
def tw4938610541543285704:=()
def tw4944497897694004105:=()
def tw4953865588907285216:=()
def tw4964365479395341524:=()
def tw4991487270385306882:=()
def tw4993863958327201973:=()
def tw5000232492035539693:=()
def tw5002640475654186023:=()
def tw5008593111378822452:=()
def tw5010956058597451964:=()
def tw5055593616971399804:=()
def tw506581581156960101:=()
def tw5072417060200589145:=()
def tw5101696844757716304:=()
def tw511232430288663203:=()
def tw5128061309963564778:=()
def tw5137589814051832496:=()
def tw514280064592716601:=()
def tw5171440476677080432:=()
def tw5217270863462422736:=()
def tw5221592684559293012:=()
def tw5226586810942512283:=()
def tw523537741815420091:=()
def tw5269183497594736927:=()
def tw5278154662435632464:=()
def tw5285915839522022235:=()
def tw5286648830458609394:=()
def tw5289818103960998278:=()
def tw5306753302271460952:=()
def tw5323657890516693427:=()
def tw5342471268416680606:=()
def tw5364010647548929812:=()
def tw5369961537445033690:=()
def tw5370981198051040953:=()
def tw5371794888043636658:=()
def tw5376530373609499990:=()
def tw539538531456391632:=()
def tw542563422162235373:=()
def tw5438652380644606353:=()
def tw54454478416044229:=()
def tw5449563278759341024:=()
def tw5459702643516471331:=()
def tw5462360663327728810:=()
def tw5467331546851215429:=()
def tw547895379624588593:=()
def tw5498123283257192965:=()
def tw5515903443438498500:=()
def tw555815775780349263:=()
def tw5604844568242257923:=()
def tw5622701340561072331:=()
def tw5634867526602368427:=()
def tw5649666937502919571:=()
def tw5702276774652866934:=()
def tw5711038861398032994:=()
def tw5723476159079860079:=()
def tw5725222548895626118:=()
def tw5748170370737335489:=()
def tw577049184839899653:=()
def tw578191462805490351:=()
def tw5805800948307579973:=()
def tw5816495043963226922:=()
def tw5832146486336120021:=()
def tw5832305185047221409:=()
def tw5845002605336314091:=()
def tw5874822333441161849:=()
def tw5890639436620234070:=()
def tw5909976876416983842:=()
def tw5920806927976990809:=()
def tw5948871876076421671:=()
def tw5953359166732830163:=()
def tw5992840812097835891:=()
def tw5994696166404524948:=()
def tw599730875272715187:=()
def tw6010092931893058622:=()
def tw6044648929357246223:=()
def tw6046103115902281144:=()
def tw6056707288978253535:=()
def tw6058616519681280931:=()
def tw6060609690816243450:=()
def tw6084841979344569690:=()
def tw6094820017090691545:=()
def tw6105849179199505303:=()
def tw6124413428159637790:=()
def tw6125853113672642322:=()
def tw6145912378217320015:=()
def tw6148498323302512570:=()
def tw6170744672141170255:=()
def tw6208910965292489261:=()
def tw6216382948874008006:=()
def tw6229817132586351632:=()
def tw622995879521568732:=()
def tw6259241058660970061:=()
def tw6284410105664486691:=()
def tw628631919661052299:=()
def tw6325675986683464353:=()
def tw6327569006664949090:=()
def tw6331431999304432861:=()
def tw6338894885288841830:=()
def tw6356304189028158447:=()
def tw640624198105042115:=()
def tw643336161829623379:=()
def tw646091604453992162:=()
def tw6469784823511061222:=()
def tw6479498380439682318:=()
def tw6508132753307246276:=()
def tw6522051377940421278:=()
def tw6526287140368922620:=()
def tw6549852094080907030:=()
def tw6565414023582247074:=()
def tw6575520176995025181:=()
def tw6607644564249050058:=()
def tw6631347999910079877:=()
def tw6651725471809605288:=()
def tw6680039986389304194:=()
def tw6686765236720167877:=()
def tw6690350156832105676:=()
def tw6701911527682315725:=()
def tw6714880395473160397:=()
def tw6733606326906232124:=()
def tw6751970477201280107:=()
def tw6782663255696616371:=()
def tw6822071536725586909:=()
def tw6828597562223498359:=()
def tw6829468419937405859:=()
def tw685176793378778422:=()
def tw6864887910540207759:=()
def tw6876597610515428209:=()
def tw6900931685637148767:=()
def tw694261584828832409:=()
def tw6945566481307383155:=()
def tw6953138203311097117:=()
def tw6973427100653255629:=()
def tw6984818610989830729:=()
def tw7001957589650049515:=()
def tw7002614004127435958:=()
def tw7007286002206832825:=()
def tw7033223617477252788:=()
def tw7046044490832178742:=()
def tw7053471978191194526:=()
def tw7086961617601330827:=()
def tw7151132215420815488:=()
def tw7181997581385953548:=()
def tw7188602182371822397:=()
def tw7217548393331319763:=()
def tw7220529860990300233:=()
def tw7249310025045793396:=()
def tw727924238349540522:=()
def tw7287071566680170395:=()
def tw730961619353400375:=()
def tw7350462372000428638:=()
def tw7387728532749555685:=()
def tw7403982271040965895:=()
def tw7407744344239389898:=()
def tw7422445781565681216:=()
def tw7476452910721959123:=()
def tw7501186508268903616:=()
def tw7509565986652818475:=()
def tw7520747337044880989:=()
def tw7538781388859322016:=()
def tw7592715696027808041:=()
def tw7607420049574824106:=()
def tw7611196895359807804:=()
def tw7631320640757110747:=()
def tw771822569319705768:=()
def tw772564365185477556:=()
def tw7764699552788554220:=()
def tw7774113678449685934:=()
def tw7777189000029798807:=()
def tw7837367980739423823:=()
def tw785946285636773999:=()
def tw786537726763496527:=()
def tw7867829370405329436:=()
def tw7882045510503734624:=()
def tw7921390202802761869:=()
def tw7926090574327391632:=()
def tw7990135213862412714:=()
def tw8006371003960147343:=()
def tw8044325682031459534:=()
def tw8080008513338510535:=()
def tw8122695690928665766:=()
def tw8151759404152838978:=()
def tw8157277791214410489:=()
def tw8159993647027272844:=()
def tw8171798328758944481:=()
def tw8176730645128964420:=()
def tw8185220541750880888:=()
def tw8185545411690514434:=()
def tw8186657734068701312:=()
def tw8212203176049278890:=()
def tw8219003486749837733:=()
def tw8222940686941784037:=()
def tw8232614014015475128:=()
def tw8272569733616993153:=()
def tw8285278889055680438:=()
def tw8297923619242306668:=()
def tw8319933024895762948:=()
def tw8332346137001284160:=()
def tw8349214307167005616:=()
def tw8356303796347215682:=()
def tw8392358500681263680:=()
def tw8397711864191134371:=()
def tw8398943975594018772:=()
def tw8412748745612879247:=()
def tw8413399678365625193:=()
def tw8414355815457870901:=()
def tw8431482922422412695:=()
def tw8498532028676091811:=()
def tw8521684928402303493:=()
def tw8535803893964050539:=()
def tw855453113358079251:=()
def tw8565224436197482051:=()
def tw858869884966428264:=()
def tw86012387029904805:=()
def tw861502493610598483:=()
def tw8622715204490130888:=()
def tw866717566613908145:=()
def tw8725675927981157988:=()
def tw8733291241859026926:=()
def tw8739830900816887780:=()
def tw8757050672659960515:=()
def tw8760152093665844161:=()
def tw87601786513091389:=()
def tw8857750881085090422:=()
def tw8865387616306378214:=()
def tw8899516883271353254:=()
def tw890339118813698166:=()
def tw8908233856664302321:=()
def tw8909772338491405060:=()
def tw8912161614967838395:=()
def tw8916268530333523031:=()
def tw8919978131948313185:=()
def tw8924819469995637033:=()
def tw8949853181751564097:=()
def tw8950108695139179302:=()
def tw896878414759379649:=()
def tw8981176238543900561:=()
def tw8995945545434573385:=()
def tw8997383693586321770:=()
def tw9003107776662980439:=()
def tw9045458381397004210:=()
def tw908480701973217441:=()
def tw9104974531708491489:=()
def tw9113380124883318265:=()
def tw9162645422354645296:=()
def tw9186807149237001177:=()
def tw9201617497623189827:=()
def tw9206141786237547592:=()
def tw9215358943560890414:=()
def tw9223045988441327695:=()
def tw9252304221032618942:=()
def tw9317495090193701157:=()
def tw9320515035125037321:=()
def tw9358312197846296583:=()
def tw936819479794009207:=()
def tw9381626543082597023:=()
def tw938635154573522699:=()
def tw9388066449989048879:=()
def tw9388713150524257201:=()
def tw9399754086935153974:=()
def tw9404705873571188630:=()
def tw9433028549170029634:=()
def tw9456574344343218679:=()
def tw9461873434466728008:=()
def tw9530734954097333506:=()
def tw9536688357841153863:=()
def tw9592521066531166775:=()
def tw9615563845995560447:=()
def tw9630203353718772412:=()
def tw9644411389650309789:=()
def tw9646623106273453227:=()
def tw9678289623588505577:=()
def tw9689729476882780088:=()
def tw9719393640593047967:=()
def tw9739999909748841315:=()
def tw9757595895972200118:=()
def tw9768259533172459722:=()
def tw9768418358887946270:=()
def tw9784134513789038367:=()
def tw9786136246686688387:=()
def tw9848817304349107530:=()
def tw9869809959619462935:=()
def tw987426779421491659:=()
def tw9879335643197240621:=()
def tw991626836265849350:=()
def tw9919008367099125623:=()
def tw9947508896943372755:=()
def tw9950792792127014553:=()
def tw9959121941294770655:=()
def tw9972681490609642005:=()
def tw9977182230042388008:=()
def tw9992116715903482975:=()
end PySem.W.Fast
set_option maxRecDepth 100000 in
set_option maxHeartbeats 0 in
open_top hd for PySem.Challenge.rw_cartelship_k41_whole_long_history
end Hd
set_option linter.all false
set_option maxRecDepth 100000
namespace L2
open PySem PySem.Spec PyProof.Rows
noncomputable abbrev Key:=Sum Int Str
noncomputable def Jy:Key→Value→Bool
 | .inl k,v=>Value.isInt k v
 | .inr x,v=>Value.isStrOf x v
noncomputable def Z8i (w:World):Key→Int
 | .inl k=>hashInt k
 | .inr x=>hashStr w x
theorem ZF:∀ {k:Key}{v:Value},Jy k v=true→(∃ i t,k=Sum.inl i∧v=Value.int i t)∨(∃ x t,k=Sum.inr x∧v=Value.str x t)
 | .inl i,v,h=>by
   obtain⟨t,e⟩:=Value.isInt_shape (k:=i) (v:=v) h;exact .inl ⟨i,t,rfl,e⟩
 | .inr x,v,h=>by
   obtain⟨t,e⟩:=Value.isStrOf_shape (x:=x) (v:=v) h;exact .inr ⟨x,t,rfl,e⟩
theorem Z4t (i:Int)(t:Tok):Jy (.inl i) (.int i t)=true:=by simp[Jy,Value.isInt]
theorem JD (x:Str)(t:Tok):Jy (.inr x) (.str x t)=true:=by simp[Jy,Value.isStrOf]
theorem Z7l (a b:Int):decide ((Sum.inl a:Key)=Sum.inl b)=(a == b):=by
 by_cases e:a=b
 ·subst e;simp
 ·have h:¬ (Sum.inl a:Key)=Sum.inl b:=λq=>e (Sum.inl.inj q);rw[decide_eq_false h];exact (beq_eq_false_iff_ne.mpr e).symm
theorem Z7M (a b:Str):decide ((Sum.inr a:Key)=Sum.inr b)=decide (a=b):=by
 by_cases e:a=b
 ·subst e;simp
 ·have h:¬ (Sum.inr a:Key)=Sum.inr b:=λq=>e (Sum.inr.inj q);rw[decide_eq_false h,decide_eq_false e]
theorem Z7r (a:Int)(b:Str):decide ((Sum.inl a:Key)=Sum.inr b)=false:=decide_eq_false (λq=>nomatch q)
theorem Z7H (a:Str)(b:Int):decide ((Sum.inr a:Key)=Sum.inl b)=false:=decide_eq_false (λq=>nomatch q)
noncomputable def Zv (prog:Program)(w:World):PySem.KeyKind prog w Key where
 is:=Jy
 hash:=Z8i w
 inj:=λv a b ha hb=>by
  rcases ZF ha with⟨i,t,rfl,rfl⟩|⟨x,t,rfl,rfl⟩
  ·rcases ZF hb with⟨j,u,rfl,e⟩|⟨y,u,rfl,e⟩
   ·injection e with e1 _;rw[e1]
   ·exact nomatch e
  ·rcases ZF hb with⟨j,u,rfl,e⟩|⟨y,u,rfl,e⟩
   ·exact nomatch e
   ·injection e with e1 _;rw[e1]
 byValue:=λk v h=>by
  rcases ZF h with⟨i,t,rfl,rfl⟩|⟨x,t,rfl,rfl⟩<;>rfl
 pyHash:=λhv h=>by
  rcases ZF hv with⟨i,t,rfl,rfl⟩|⟨x,t,rfl,rfl⟩
  ·exact wpAny_pyHash_int h
  ·exact wpAny_pyHash_str h
 eqBool:=λhu hv h=>by
  rcases ZF hu with⟨i,t,rfl,rfl⟩|⟨x,t,rfl,rfl⟩
  ·rcases ZF hv with⟨j,u,rfl,rfl⟩|⟨y,u,rfl,rfl⟩
   ·rw[Z7l] at h;exact wpAny_eqBool_int h
   ·rw[Z7r] at h;exact SeqAt.EqAt.int_str i t y u _ _ _ _ h
  ·rcases ZF hv with⟨j,u,rfl,rfl⟩|⟨y,u,rfl,rfl⟩
   ·rw[Z7H] at h;exact SeqAt.EqAt.str_int x t j u _ _ _ _ h
   ·rw[Z7M] at h;exact wpAny_eqBool_str h
 «strs»:=λk x t v h=>by
  rcases ZF h with⟨i,u,rfl,e⟩|⟨y,u,rfl,e⟩
  ·exact nomatch e
  ·injection e with e1 _
   subst e1;cases v<;>rfl
theorem Z4h (prog:Program)(w:World)(k:Key)(v:Value):(Zv prog w).is k v=Jy k v:=rfl
theorem Z34 (prog:Program)(w:World)(i:Int)(t:Tok):(Zv prog w).is (.inl i) (.int i t)=true:=Z4t i t
theorem Z30 (prog:Program)(w:World)(x:Str)(t:Tok):(Zv prog w).is (.inr x) (.str x t)=true:=JD x t
inductive V where
 | non|bl (b:Bool)|int (i:Int)|str (x:Str)|byt (b:Array UInt8)|flt (b:UInt64)|ref (a:Addr)|ty (n:String)
 deriving DecidableEq
noncomputable def RelV:V→Value→Prop
 | .non,u=>u=Value.none
 | .bl b,u=>u=Value.bool b
 | .int i,u=>∃ t,u=Value.int i t
 | .str x,u=>∃ t,u=Value.str x t
 | .byt b,u=>∃ t,u=Value.bytes b t
 | .flt b,u=>∃ t,u=Value.float b t
 | .ref a,u=>u=Value.ref a
 | .ty n,u=>u=Value.type n
noncomputable abbrev Vals:List V→List Value→Prop:=Paired RelV
theorem Vals.length {xs:List V}{us:List Value}(r:Vals xs us):xs.length=us.length:=Paired.length r
theorem Vals.get:∀ {xs:List V}{us:List Value}{i:Nat}{x:V},Vals xs us→xs[i]? = some x→∃ u,us[i]? = some u∧RelV x u
 | _,_,_,_,.nil,e=>by simp at e
 | _,_,0,_,.cons r _,e=>by simp at e;subst e;exact⟨_,rfl,r⟩
 | _,_,i + 1,x,.cons _ t,e=>by
   obtain⟨u,h1,h2⟩:=Vals.get (i:=i) (x:=x) t (by simpa using e);exact⟨u,by simpa using h1,h2⟩
theorem Vals.set {x:V}{u:Value}(r:RelV x u):∀ {xs:List V}{us:List Value} (i:Nat),Vals xs us→Vals (xs.set i x) (us.set i u)
 | _,_,_,.nil=>.nil
 | _,_,0,.cons _ t=>.cons r t
 | _,_,i + 1,.cons q t=>.cons q (Vals.set r i t)
theorem Vals.append:∀ {xs ys:List V}{us ws:List Value},Vals xs us→Vals ys ws→Vals (xs++ys) (us++ws)
 | _,_,_,_,.nil,s=>s
 | _,_,_,_,.cons r t,s=>.cons r (Vals.append t s)
noncomputable def RelO:Option V→Option Value→Prop
 | some v,some u=>RelV v u
 | none,none=>True
 | _,_=>False
noncomputable def KV {κ:Type}:List (κ×V)→List (κ×Value)→Prop:=Paired λ(p:κ×V) (q:κ×Value)=>p.1=q.1∧RelV p.2 q.2
noncomputable def kV:Key→V
 | .inl i=>.int i
 | .inr x=>.str x
inductive HO where
 | lst (xs:List V)
 | tup (xs:List V)
 | dK (kvs:List (Key×V))|dT (kvs:List (List Key×V))
 | set (S:Int→Bool) (n:Nat)
 | ins (C dx:Addr) (fs:List (Str×V))
 | own (x:Addr)
 | xd (fs:List (Str×V))
 | met (f x:Addr)
 | rng (lo hi:Int)
 | frz (o:Obj) (u:HO)
 | tbl (ps:Array Value)
 | ext (φ:Heap→Prop)
noncomputable abbrev Hp:=Addr→Option HO
noncomputable def upd (H:Hp)(a:Addr)(o:HO):Hp:=λb=>if b=a then some o else H b
theorem Z1 {H:Hp}{a:Addr}{o:HO}:upd H a o a=some o:=by unfold upd;rw[if_pos rfl]
theorem Z2 {H:Hp}{a b:Addr}{o:HO}(h:b≠a):upd H a o b=H b:=by unfold upd;rw[if_neg h]
theorem ZU {H:Hp}{a:Addr}{o u:HO}:upd (upd H a o) a u=upd H a u:=by
 funext b;unfold upd;split<;>rfl
theorem Zi {H:Hp}{a b:Addr}{o u:HO}(h:H a=some o)(h':H b=some u)(d:o≠u):a≠b:=by
 intro e;subst e;rw[h] at h';exact d (Option.some.inj h')
theorem Z6 {H:Hp}{a b:Addr}{o:HO}(h:H a=some o)(h':H b=none):a≠b:=by
 intro e;subst e;rw[h] at h';cases h'
section
variable (P:Program)(w:World)
noncomputable def ObjOk (H:Hp)(h:Heap)(a:Addr):HO→Prop
 | .lst xs=>xs.length≤sizeLine∧∃ (its:List Value) (n:Nat),Vals xs its∧h.get? a=some { cls:=.type "list",data:=.seq its.toArray n }
 | .tup xs=>xs.length≤sizeLine∧∃ its:List Value,Vals xs its∧IsTup h a its.toArray
 | .dK kvs=>kvs.length≤sizeLine∧(a == sysModules)=false∧∃ vs,KV kvs vs∧h.DictOf (Zv P w) a vs
 | .dT kvs=>kvs.length≤sizeLine∧(a == sysModules)=false∧∃ xs:List (List Key×Addr×Value),
  Paired (λ(p:List Key×V) (q:List Key×Addr×Value)=>p.1=q.1∧H q.2.1=some (.tup (p.1.map kV))∧RelV p.2 q.2.2) kvs xs∧
  ∃ o es ep,h.get? a=some o∧o.ExactDict∧o.data=.dict es ep∧es.toList=xs.map (entryOfKey (tupleKind (Zv P w)))∧(xs.map (·.1)).Nodup
 | .set S n=>h.SetOf (intKind P w) a S n
 | .ins C dx fs=>H dx=some (.own a)∧fs.length≤1000∧dx≠a∧h.get? a=some (W.instObj C dx)∧
  ∃ mA,h.Ns1 dx mA∧(∀ f,RelO (fs.lookup f) (mA f))∧PySem.Within mA (fs.map (·.1))
 | .own _=>∃ o,h.get? a=some o
 | .xd fs=>∃ mA,h.Ns1 a mA∧∀ f,RelO (fs.lookup f) (mA f)
 | .rng lo hi=>∃ t u v,h.get? a=some { cls:=.type "range",data:=.fields #[.int lo t,.int hi u,.int 1 v] }
 | .frz o u=>h.get? a=some o∧ObjOk H h a u
 | .tbl ps=>h.get? a=some { cls:=.none,data:=.fields ps }
 | .met f x=>h.get? a=some (W.methodObj (.ref f) (.ref x))
 | .ext φ=>φ h∧(∃ o,h.get? a=some o)∧∀ h1 h2:Heap,φ h1→(∀ o,h1.get? a=some o→h2.get? a=some o)→φ h2
noncomputable def HOk (H:Hp)(h:Heap):Prop:=∀ a o,H a=some o→ObjOk P w H h a o
end
section
variable {P:Program}{w:World}{H H':Hp}{h h':Heap}{a:Addr}{o:HO}
theorem ObjOk.lt (x:ObjOk P w H h a o):a < h.objs.size:=by
 cases o with
 | lst xs=>obtain⟨_,_,_,_,e⟩:=x;exact Heap.lt_size e
 | tup xs=>obtain⟨_,_,_,p⟩:=x;exact p.lt
 | dK kvs=>obtain⟨_,_,_,_,o,_,_,e,_⟩:=x;exact Heap.lt_size e
 | dT kvs=>obtain⟨_,_,_,_,o,_,_,e,_⟩:=x;exact Heap.lt_size e
 | set S n=>obtain⟨o,_,_,_,e,_⟩:=x;exact Heap.lt_size e
 | ins C dx fs=>obtain⟨_,_,_,e,_⟩:=x;exact Heap.lt_size e
 | own y=>obtain⟨_,e⟩:=x;exact Heap.lt_size e
 | xd fs=>obtain⟨_,⟨_,_,_,e,_⟩,_⟩:=x;exact Heap.lt_size e
 | rng lo hi=>obtain⟨_,_,_,e⟩:=x;exact Heap.lt_size e
 | frz ob u=>obtain⟨e,_⟩:=x;exact Heap.lt_size e
 | tbl ps=>exact Heap.lt_size (show h.get? a=some _ from x)
 | met f y=>exact Heap.lt_size (show h.get? a=some _ from x)
 | ext φ=>obtain⟨_,⟨_,e⟩,_⟩:=x;exact Heap.lt_size e
theorem Paired.mapP {α β:Type}{F G:α→β→Prop}:∀ {l₁:List α}{l₂:List β},Paired F l₁ l₂→(∀ a b,F a b→G a b)→Paired G l₁ l₂
 | _,_,.nil,_=>.nil
 | _,_,.cons r t,f=>.cons (f _ _ r) (Paired.mapP t f)
theorem ObjOk.stay (x:ObjOk P w H h a o)(k:∀ b u,(b=a∨H b=some (.own a))→h.get? b=some u→h'.get? b=some u)
 (ho:∀ b,H b=some (.own a)→H' b=some (.own a)) (ht:∀ b xs,H b=some (.tup xs)→H' b=some (.tup xs)):ObjOk P w H' h' a o:=by
 induction o with
 | lst xs=>obtain⟨z,its,n,r,e⟩:=x;exact⟨z,its,n,r,k _ _ (.inl rfl) e⟩
 | tup xs=>obtain⟨z,its,r,ob,e,c⟩:=x;exact⟨z,its,r,ob,k _ _ (.inl rfl) e,c⟩
 | dK kvs=>obtain⟨z,y,vs,r,ob,es,ep,e,c⟩:=x;exact⟨z,y,vs,r,ob,es,ep,k _ _ (.inl rfl) e,c⟩
 | dT kvs=>
   obtain⟨z,y,xs,r,ob,es,ep,e,c⟩:=x;exact⟨z,y,xs,Paired.mapP r λp q z=>⟨z.1,ht _ _ z.2.1,z.2.2⟩,ob,es,ep,k _ _ (.inl rfl) e,c⟩
 | set S n=>obtain⟨ob,es,ep,t,e,c⟩:=x;exact⟨ob,es,ep,t,k _ _ (.inl rfl) e,c⟩
 | ins C dx fs=>
   obtain⟨d,z,ne,e,mA,⟨od,es,ep,e2,c⟩,r⟩:=x;exact⟨ho _ d,z,ne,k _ _ (.inl rfl) e,mA,⟨od,es,ep,k _ _ (.inr d) e2,c⟩,r⟩
 | own y=>obtain⟨ob,e⟩:=x;exact⟨ob,k _ _ (.inl rfl) e⟩
 | xd fs=>obtain⟨mA,⟨od,es,ep,e,c⟩,r⟩:=x;exact⟨mA,⟨od,es,ep,k _ _ (.inl rfl) e,c⟩,r⟩
 | rng lo hi=>obtain⟨t,u,v,e⟩:=x;exact⟨t,u,v,k _ _ (.inl rfl) e⟩
 | frz ob u ih=>obtain⟨e,q⟩:=x;exact⟨k _ _ (.inl rfl) e,ih q⟩
 | tbl ps=>
   have e:h.get? a=some { cls:=.none,data:=.fields ps }:=x;show h'.get? a=some { cls:=.none,data:=.fields ps };exact k a _ (.inl rfl) e
 | met f y=>
   have e:h.get? a=some (W.methodObj (.ref f) (.ref y)):=x;show h'.get? a=some (W.methodObj (.ref f) (.ref y));exact k a _ (.inl rfl) e
 | ext φ=>obtain⟨p,⟨o,e⟩,st⟩:=x;exact⟨st _ _ p λo q=>k _ _ (.inl rfl) q,⟨o,k _ _ (.inl rfl) e⟩,st⟩
theorem HOk.lt (x:HOk P w H h)(e:H a=some o):a < h.objs.size:=(x a o e).lt
theorem HOk.fresh (x:HOk P w H h)(e:h.objs.size≤a):H a=none:=by
 cases q:H a with
 | none=>rfl
 | some u=>exact absurd (Nat.lt_of_lt_of_le (x.lt q) e) (Nat.lt_irrefl _)
theorem HOk.kept (x:HOk P w H h)(k:∀ b u,h.get? b=some u→h'.get? b=some u):HOk P w H h':=λa o e=>
 (x a o e).stay (λb u _ q=>k b u q) (λ_ q=>q) λ_ _ q=>q
theorem HOk.laid (x:HOk P w H h)(k:∀ b u,h.get? b=some u→h'.get? b=some u)(hp:h.objs.size≤a)(new:ObjOk P w (upd H a o) h' a o):HOk P w (upd H a o) h':=λb u e=>by
 have hn:=x.fresh hp
 by_cases hb:b=a
 ·subst hb;rw[Z1] at e;cases e;exact new
 ·rw[Z2 hb] at e;exact (x b u e).stay (λc v _ q=>k c v q) (λc q=>by rw[Z2 (Z6 q hn)];exact q) λc xs q=>by rw[Z2 (Z6 q hn)];exact q
end
noncomputable def Rd (H:Hp)(a:Addr)(u:HO):Prop:=H a=some u∨∃ o,H a=some (.frz o u)
theorem Rd.of {H:Hp}{a:Addr}{u:HO}(h:H a=some u):Rd H a u:=.inl h
theorem Rd.ok {P:Program}{w:World}{H:Hp}{h:Heap}{a:Addr}{u:HO}(r:Rd H a u)(x:HOk P w H h):ObjOk P w H h a u:=by
 rcases r with r|⟨o,r⟩
 ·exact x a u r
 ·obtain⟨_,q⟩:=x a _ r;exact q
noncomputable def Mut:Option HO→Prop
 | some (.lst _)=>True
 | some (.dK _)=>True
 | some (.dT _)=>True
 | some (.set _ _)=>True
 | some (.ins _ _ _)=>True
 | some (.ext _)=>True
 | _=>False
section
variable {P:Program}{w:World}{H:Hp}{h h':Heap}{x e:Addr}{o':HO}
theorem HOk.write (ok:HOk P w H h)(mu:Mut (H x))(he:e=x∨H e=some (.own x))(k:∀ b u,b≠e→h.get? b=some u→h'.get? b=some u)(heo:∃ u,h'.get? e=some u)
 (new:ObjOk P w (upd H x o') h' x o'):HOk P w (upd H x o') h':=λb u q=>by
 have nown:∀ c y,H c=some (.own y)→c≠x:=λc y r z=>by subst z;rw[r] at mu;exact mu
 have ntup:∀ c xs,H c=some (.tup xs)→c≠x:=λc xs r z=>by subst z;rw[r] at mu;exact mu
 by_cases hb:b=x
 ·subst hb;rw[Z1] at q;cases q;exact new
 ·rw[Z2 hb] at q
  by_cases hbe:b=e
  ·have q':H b=some (.own x):=by
    rcases he with z|z
    ·exact absurd (hbe.trans z) hb
    ·rw[hbe];exact z
   rw[q] at q';cases q';obtain⟨v,hv⟩:=heo;exact⟨v,by rw[hbe];exact hv⟩
  ·refine (ok b u q).stay (λc v hc r=>k c v ?_ r) (λc r=>by rw[Z2 (nown c b r)];exact r) λc xs r=>by rw[Z2 (ntup c xs r)];exact r
   rcases hc with rfl|hc
   ·exact hbe
   ·rintro rfl
    rcases he with z|z
    ·exact nown c b hc z
    ·rw[hc] at z;cases z;exact hb rfl
end
structure Un (fs ex:List Addr)(H H':Hp)(h h':Heap):Prop where
 keep:∀ b o,h.get? b=some o→H b=none→b ∉ fs→b ∉ ex→h'.get? b=some o
 slot:∀ b o,h.get? b=some o→H b=none→b∈fs→b ∉ ex→∃ sl,h'.get? b=some { o with slots:=sl }
 free:∀ b o,h.get? b=some o→H b=none→b ∉ ex→H' b=none
 there:∀ b o,h.get? b=some o→b ∉ ex→∃ o',h'.get? b=some o'
 tups:∀ b xs,H b=some (.tup xs)→H' b=some (.tup xs)
 frzs:∀ b o u,H b=some (.frz o u)→H' b=some (.frz o u)
 tbls:∀ b ps,H b=some (.tbl ps)→∃ more,H' b=some (.tbl (ps++more))
section
variable {fs fs' ex ex':List Addr}{H H1 H2:Hp}{h h1 h2 h':Heap}{a x e:Addr}{o:HO}
theorem Un.any (u:Un fs ex H H1 h h1){b:Addr}{ob:Obj}(q:h.get? b=some ob)(n:H b=none)(hx:b ∉ ex):∃ sl,h1.get? b=some { ob with slots:=sl }:=by
 by_cases hb:b∈fs
 ·exact u.slot b ob q n hb hx
 ·exact⟨ob.slots,u.keep b ob q n hb hx⟩
theorem Un.kept (k:∀ b u,h.get? b=some u→h'.get? b=some u):Un fs ex H H h h':=
 ⟨λb ob q _ _ _=>k b ob q,λb ob q _ _ _=>⟨ob.slots,k b ob q⟩,λ_ _ _ n _=>n,λb ob q _=>⟨ob,k b ob q⟩,λ_ _ q=>q,λ_ _ _ q=>q,λ_ ps q=>⟨#[],by rw[q];simp⟩⟩
theorem Un.refl:Un fs ex H H h h:=Un.kept λ_ _ q=>q
theorem Un.laid (k:∀ b u,h.get? b=some u→h'.get? b=some u)(hp:h.objs.size≤a)(hn:H a=none):Un fs ex H (upd H a o) h h' where
 keep:=λb u q _ _ _=>k b u q
 slot:=λb u q _ _ _=>⟨u.slots,k b u q⟩
 free:=λb u q n _=>by rw[Z2 (Nat.ne_of_lt (Nat.lt_of_lt_of_le (Heap.lt_size q) hp))];exact n
 there:=λb u q _=>⟨u,k b u q⟩
 tups:=λb xs q=>by rw[Z2 (Z6 q hn)];exact q
 frzs:=λb u xs q=>by rw[Z2 (Z6 q hn)];exact q
 tbls:=λb ps q=>⟨#[],by rw[Z2 (Z6 q hn),q];simp⟩
theorem Un.write (mu:Mut (H x))(he:e=x∨H e=some (.own x))(k:∀ b u,b≠e→h.get? b=some u→h'.get? b=some u)(heo:∃ u,h'.get? e=some u):Un fs ex H (upd H x o) h h':=by
 have hx:∀ b,H b=none→b≠x:=λb n z=>by subst z;rw[n] at mu;exact mu
 have hb:∀ b,H b=none→b≠e:=λb n z=>by
  subst z
  rcases he with r|r
  ·exact hx b n r
  ·rw[n] at r;cases r
 have hm:∀ b u,H b=some u→¬ Mut (some u)→b≠x:=λb u q nm z=>by subst z;rw[q] at mu;exact nm mu
 refine⟨λb u q n _ _=>k b u (hb b n) q,λb u q n _ _=>⟨u.slots,k b u (hb b n) q⟩,λb u q n _=>by rw[Z2 (hx b n)];exact n,λb u q _=>?_,
  λb xs q=>by rw[Z2 (hm b _ q λz=>z)];exact q,λb u xs q=>by rw[Z2 (hm b _ q λz=>z)];exact q,λb ps q=>⟨#[],by rw[Z2 (hm b _ q λz=>z),q];simp⟩⟩
 by_cases hbe:b=e
 ·subst hbe;exact heo
 ·exact⟨u,k b u hbe q⟩
end
noncomputable def trk (h:Heap)(H:Hp):List Addr:=(List.range h.objs.size).filter λa=>(H a).isSome
noncomputable def Jq (h:Heap)(H:Hp):Heap:=W.hideAll h (trk h H)
theorem Z4u (h:Heap)(H:Hp):(Jq h H).objs.size=h.objs.size:=W.hideAll_size _ _
theorem Z5V {h:Heap}{H:Hp}{b:Addr}{o:Obj}(e:h.get? b=some o)(n:H b=none):(Jq h H).get? b=some o:=
 W.hideAll_get _ e λhm=>by
  have q:(H b).isSome=true:=(List.mem_filter.mp hm).2;rw[n] at q;simp at q
theorem Z6R {h:Heap}{H:Hp}{b:Addr}{o:Obj}(e:(Jq h H).get? b=some o):h.get? b=some o∧H b=none:=by
 have e':h.get? b=some o:=W.of_hideAll (trk h H) e;refine⟨e',?_⟩;cases q:H b with
 | none=>rfl
 | some x=>
   have hm:b∈trk h H:=List.mem_filter.mpr ⟨List.mem_range.mpr (Heap.lt_size e'),by simp[q]⟩;have z:(Jq h H).get? b=none:=W.hideAll_none (trk h H) hm;rw[z] at e;cases e
noncomputable def X8 (g h:Heap)(L:Addr):List (Addr×Obj):=(List.range h.objs.size).filterMap λa=>if a=L∨(g.get? a).isSome=true then none else (h.get? a).map λo=>(a,o)
theorem X0 {g h:Heap}{L a:Addr}{o:Obj}(h1:a≠L)(h2:g.get? a=none)(h3:h.get? a=some o):(a,o)∈X8 g h L:=
 List.mem_filterMap.mpr ⟨a,List.mem_range.mpr (Heap.lt_size h3),by simp[h1,h2,h3]⟩
theorem Z1i {g h:Heap}{L:Addr}{p:Addr×Obj}(hp:p∈X8 g h L):p.1≠L∧g.get? p.1=none∧h.get? p.1=some p.2:=by
 obtain⟨b,_,e⟩:=List.mem_filterMap.mp hp
 split at e
 ·cases e
 ·rename_i hn;cases q:h.get? b with
  | none=>rw[q] at e;simp at e
  | some u=>
    rw[q] at e;simp only[Option.map_some,Option.some.injEq] at e;subst e;refine⟨λz=>hn (.inl z),?_,q⟩;show g.get? b=none;cases r:g.get? b with
    | none=>rfl
    | some v=>exact (hn (.inr (by simp[r]))).elim
noncomputable def YM (g h:Heap)(L d:Addr):List (Addr×Obj):=(X8 g h L).filter λp=>decide (p.1≠d)
theorem Z13 {g h:Heap}{L d:Addr}:∀ p∈YM g h L d,p.1≠d:=λp hp=>of_decide_eq_true (List.mem_filter.mp hp).2
theorem Z6j {g h:Heap}{L d a:Addr}{o:Obj}(h1:a≠L)(h2:g.get? a=none)(h3:h.get? a=some o)(h4:a≠d):(a,o)∈YM g h L d:=
 List.mem_filter.mpr ⟨X0 h1 h2 h3,decide_eq_true h4⟩
theorem XF {g h:Heap}{L:Addr}:News g L h (X8 g h L):=λp hp=>let ⟨a,b,c⟩:=Z1i hp;⟨c,a,b⟩
theorem Z15 {g h:Heap}{L d:Addr}{o:Obj}(h1:d≠L)(h2:g.get? d=none)(h3:h.get? d=some o):News g L h ((d,o)::YM g h L d):=λp hp=>by
 rcases List.mem_cons.mp hp with rfl|hp
 ·exact⟨h3,h1,h2⟩
 ·exact XF p (List.mem_filter.mp hp).1
structure Mod (K:W.Frag)(mg:Str→Option Value)(base:Heap):Prop where
 kin:K.In base
 glob:base.Ns mainGlobals mg
 blt:∃ mb,base.Ns builtinsNs mb∧∀ x:Str,x≠"__name__"→mb x=bootBuiltins x
 nolimit:base.NoLimit
structure Cx where
 prog:Program
 w:World
 K:W.Frag
 mg:Str→Option Value
 base:Heap
 A:Around
 N:List Str
 s₀:Shared
 H₀:Hp
 env:Env
 outer:List Env
 stack:List Env
 ex:List Addr
 fn:Str→Bool
 calm:Bool
 pn:List (Addr×Obj)
 xe:Value→Shared→Prop
noncomputable def frs (l:List Env):List Addr:=l.filterMap (·.frame)
noncomputable abbrev Cx.fs (X:Cx):List Addr:=frs X.outer
noncomputable def Vis (sc:Scope)(x:Str):Prop:=sc.names.lookup x=some .local∨sc.names.lookup x=some .cell∨sc.names.lookup x=some .free
noncomputable def Loc (sc:Scope)(x:Str):Prop:=sc.names.lookup x=some .local∨sc.names.lookup x=some .cell
noncomputable def Z8o (env:Env)(h:Heap)(m:Str→Option Value)(x:Str)(u:Value):Prop:=
 (env.kindOf x=some .local∧m x=some u)∨((env.kindOf x=some .cell∨env.kindOf x=some .free)∧∃ c,env.cells.lookup x=some c∧h.IsCell c (some u))
structure Cx.Ok (X:Cx):Prop where
 mod:Mod X.K X.mg X.base
 kind:X.env.scope.kind=.function
 glob:X.env.globals=mainGlobals
 blt:X.env.builtins=builtinsNs
 above:X.s₀.heap.objs.size≤X.env.locals
 inj:∀ x y c,X.env.cells.lookup x=some c→X.env.cells.lookup y=some c→x=y
 has:∀ x,(X.env.kindOf x=some .cell∨X.env.kindOf x=some .free)→∃ c,X.env.cells.lookup x=some c
 cab:∀ x c,X.fn x=true→X.env.cells.lookup x=some c→X.s₀.heap.objs.size≤c
 hd:X.calm=true→X.A.handled=none
 frames:X.A.frames=some X.stack
 stk:X.stack=X.outer∨(X.stack=X.env::X.outer∧X.env.frame=some X.env.locals)
 exf:∀ b∈X.ex,b≠X.env.locals∧∀ x c,X.env.cells.lookup x=some c→c≠b
 bs:∀ b o,X.base.get? b=some o→X.s₀.heap.get? b=some o∧X.H₀ b=none
 bsz:X.base.objs.size≤X.s₀.heap.objs.size
 noex:∀ b o,X.base.get? b=some o→b ∉ X.ex
 exfs:∀ b∈X.ex,b ∉ X.fs
 funs:X.s₀.heap.FunFrames X.base X.outer
 frf:∀ b∈X.fs,X.H₀ b=none
structure Inv (X:Cx)(pins:List (Addr×Obj))(σ:List (Option V))(H:Hp)(s:Shared):Prop where
 ok:X.Ok
 os:s.os=X.s₀.os
 bare:AllBare s.gens
 base:Un X.fs X.ex X.H₀ H X.s₀.heap s.heap
 loc:∃ m,s.heap.Ns X.env.locals m∧∀ (i:Nat) (x:Str) (v:V),X.N[i]? = some x→σ[i]? = some (some v)→Vis X.env.scope x→∃ u,RelV v u∧Z8o X.env s.heap m x u
 cell:∀ x c,X.env.cells.lookup x=some c→∃ v,s.heap.IsCell c v
 free:H X.env.locals=none
 freeC:∀ x c,X.env.cells.lookup x=some c→H c=none
 pin:∀ p∈X.pn++pins,s.heap.get? p.1=some p.2∧H p.1=none∧p.1≠X.env.locals∧p.1 ∉ X.fs∧∀ v,p.2.data≠.cell v
 hok:HOk X.prog X.w H s.heap
 len:σ.length=X.N.length
section
variable {X:Cx}{pins:List (Addr×Obj)}{σ:List (Option V)}{H H':Hp}{s:Shared}{h':Heap}
theorem Cx.Ok.nofr (ok:X.Ok){b:Addr}{o:Obj}(e:X.base.get? b=some o):b ∉ X.fs:=λhb=>by
 have:=(ok.funs.mem hb).1;rw[e] at this;cases this
theorem Inv.bs (I:Inv X pins σ H s):∀ b o,X.base.get? b=some o→s.heap.get? b=some o∧H b=none:=λb o e=>
 ⟨I.base.keep b o (I.ok.bs b o e).1 (I.ok.bs b o e).2 (I.ok.nofr e) (I.ok.noex b o e),I.base.free b o (I.ok.bs b o e).1 (I.ok.bs b o e).2 (I.ok.noex b o e)⟩
theorem Inv.bk (I:Inv X pins σ H s):∀ b o,X.base.get? b=some o→s.heap.get? b=some o:=λb o e=>(I.bs b o e).1
theorem Inv.mod (I:Inv X pins σ H s):Mod X.K X.mg X.base:=I.ok.mod
theorem Inv.kIn (I:Inv X pins σ H s):X.K.In s.heap:=I.ok.mod.kin.keeps I.bk
theorem Inv.fr (I:Inv X pins σ H s):∃ m,Fr X.base X.env.locals s.heap m:=
 let ⟨m,hn,_⟩:=I.loc
 ⟨m,hn,I.bk,Nat.le_trans I.ok.bsz I.ok.above⟩
theorem Inv.lt (I:Inv X pins σ H s):X.env.locals < s.heap.objs.size:=let ⟨_,hn,_⟩:=I.loc;hn.lt
theorem Inv.sz (I:Inv X pins σ H s):X.s₀.heap.objs.size≤s.heap.objs.size:=Nat.le_trans I.ok.above (Nat.le_of_lt I.lt)
theorem Inv.nofs (I:Inv X pins σ H s){a:Addr}(h:s.heap.objs.size≤a):a ∉ X.fs:=λhb=>by
 obtain⟨_,o,ho,_⟩:=I.ok.funs.mem hb;exact absurd (Nat.lt_of_lt_of_le (Heap.lt_size ho) (Nat.le_trans I.sz h)) (Nat.lt_irrefl _)
theorem Inv.cne (I:Inv X pins σ H s):∀ x c,X.env.cells.lookup x=some c→c≠X.env.locals:=λx c e z=>by
 obtain⟨v,o,ho,hd⟩:=I.cell x c e;obtain⟨m,⟨o',es,ep,ho',hd',_⟩,_⟩:=I.loc;rw[z,ho'] at ho;cases ho;rw[hd'] at hd;cases hd
theorem Inv.funs (I:Inv X pins σ H s):s.heap.FunFrames X.base X.outer:=by
 have all:∀ (l:List Env),(∀ b∈frs l,b∈X.fs)→X.s₀.heap.FunFrames X.base l→s.heap.FunFrames X.base l:=by
  intro l
  induction l with
  | nil=>intro _ _;trivial
  | cons env r ih=>
    intro hs hl;obtain⟨hk,⟨L,o,hf,hn,ho,hd⟩,hr⟩:=hl;have hL:L∈X.fs:=hs L (by unfold frs;rw[List.filterMap_cons,hf];exact List.mem_cons_self);obtain⟨sl,e⟩:=I.base.slot L o ho (I.ok.frf L hL) hL λz=>I.ok.exfs L z hL;exact⟨hk,⟨L,_,hf,hn,e,hd⟩,ih (λb hb=>hs b (by unfold frs;rw[List.filterMap_cons,hf];exact List.mem_cons_of_mem _ hb)) hr⟩
 exact all X.outer (λ_ hb=>hb) I.ok.funs
theorem Inv.stack (I:Inv X pins σ H s):s.heap.FunFrames X.base X.stack:=by
 rcases I.ok.stk with e|⟨e,hf⟩
 ·rw[e];exact I.funs
 ·rw[e];obtain⟨m,hn,_⟩:=I.loc;refine .cons (by rw[I.ok.kind];decide) hf hn ?_ I.funs;exact Heap.get?_none_of_le (Nat.le_trans I.ok.bsz I.ok.above)
theorem Inv.stkSub (I:Inv X pins σ H s):∀ b∈frs X.stack,b∈X.env.locals::X.fs:=λb hb=>by
 rcases I.ok.stk with e|⟨e,hf⟩
 ·rw[e] at hb;exact List.mem_cons_of_mem _ hb
 ·rw[e] at hb;unfold frs at hb;rw[List.filterMap_cons,hf] at hb;exact hb
theorem Inv.stkFree (I:Inv X pins σ H s):∀ b∈frs X.stack,H b=none:=λb hb=>by
 rcases List.mem_cons.mp (I.stkSub b hb) with e|hb
 ·rw[e];exact I.free
 ·obtain⟨_,o,ho,_⟩:=I.ok.funs.mem hb;exact I.base.free b o ho (I.ok.frf b hb) λz=>I.ok.exfs b z hb
theorem Inv.step {g':Array GenState}{t':Nat}{d':Drawn}{ch:List Addr}(I:Inv X pins σ H s)
 (hch:∀ b∈ch,(b∈X.ex∨X.s₀.heap.objs.size≤b)∧b≠X.env.locals∧(∀ x c,X.env.cells.lookup x=some c→c≠b)∧∀ p∈X.pn++pins,p.1≠b)
 (keep:∀ b o,b≠X.env.locals→b ∉ X.fs→b ∉ ch→s.heap.get? b=some o→H b=none→h'.get? b=some o)
 (slot:∀ b o,b≠X.env.locals→b∈X.fs→b ∉ ch→s.heap.get? b=some o→H b=none→∃ sl,h'.get? b=some { o with slots:=sl }) (free:∀ b o,b ∉ ch→s.heap.get? b=some o→H b=none→H' b=none)
 (there:∀ b o,b ∉ ch→s.heap.get? b=some o→∃ o',h'.get? b=some o')
 (tups:∀ b xs,H b=some (.tup xs)→H' b=some (.tup xs)) (frzs:∀ b o u,H b=some (.frz o u)→H' b=some (.frz o u)) (tbls:∀ b ps,H b=some (.tbl ps)→∃ more,H' b=some (.tbl (ps++more)))
 (ns:∀ m,s.heap.Ns X.env.locals m→h'.Ns X.env.locals m) (hok:HOk X.prog X.w H' h') (hg:AllBare g') :
 Inv X pins σ H' { s with heap:=h',gens:=g',drawn:=d',toks:=t' }:=by
 have neL:∀ b o,X.s₀.heap.get? b=some o→b≠X.env.locals:=λb o e=>Nat.ne_of_lt (Nat.lt_of_lt_of_le (Heap.lt_size e) I.ok.above);have neC:∀ b o,X.s₀.heap.get? b=some o→b ∉ X.ex→b ∉ ch:=λb o e hx hb=>by
  rcases (hch b hb).1 with z|z
  ·exact hx z
  ·exact absurd (Nat.lt_of_lt_of_le (Heap.lt_size e) z) (Nat.lt_irrefl _)
 have cellK:∀ x c,X.env.cells.lookup x=some c→∀ v,s.heap.IsCell c v→h'.IsCell c v:=λx c e v ⟨o,ho,hd⟩=>by
  have nch:c ∉ ch:=λz=>(hch c z).2.2.1 x c e rfl
  by_cases hc:c∈X.fs
  ·obtain⟨sl,q⟩:=slot c o (I.cne x c e) hc nch ho (I.freeC x c e);exact⟨_,q,hd⟩
  ·exact⟨o,keep c o (I.cne x c e) hc nch ho (I.freeC x c e),hd⟩
 refine⟨I.ok,I.os,hg,⟨λb o e n hb hx=>?_,λb o e n hb hx=>?_,λb o e n hx=>?_,λb o e hx=>?_,λb xs e=>tups b xs (I.base.tups b xs e),λb o xs e=>frzs b o xs (I.base.frzs b o xs e),λb ps e=>?_⟩,?_,λx c e=>?_,?_,λx c e=>?_,λp hp=>?_,hok,I.len⟩
 ·exact keep b o (neL b o e) hb (neC b o e hx) (I.base.keep b o e n hb hx) (I.base.free b o e n hx)
 ·obtain⟨sl,e1⟩:=I.base.slot b o e n hb hx;obtain⟨sl',e2⟩:=slot b _ (neL b o e) hb (neC b o e hx) e1 (I.base.free b o e n hx);exact⟨sl',e2⟩
 ·obtain⟨o',e1⟩:=I.base.there b o e hx;exact free b o' (neC b o e hx) e1 (I.base.free b o e n hx)
 ·obtain⟨o',e1⟩:=I.base.there b o e hx;exact there b o' (neC b o e hx) e1
 ·obtain⟨m1,e1⟩:=I.base.tbls b ps e;obtain⟨m2,e2⟩:=tbls b _ e1;exact⟨m1++m2,by rw[e2,Array.append_assoc]⟩
 ·obtain⟨m,hn,hl⟩:=I.loc;refine⟨m,ns m hn,λi x v e1 e2 e3=>?_⟩;obtain⟨u,r,l⟩:=hl i x v e1 e2 e3;refine⟨u,r,?_⟩
  rcases l with l|⟨k,c,e,z⟩
  ·exact .inl l
  ·exact .inr ⟨k,c,e,cellK x c e _ z⟩
 ·obtain⟨v,z⟩:=I.cell x c e;exact⟨v,cellK x c e v z⟩
 ·obtain⟨m,⟨o,_,_,ho,_⟩,_⟩:=I.loc;exact free _ o (λz=>(hch _ z).2.1 rfl) ho I.free
 ·obtain⟨v,o,ho,hd⟩:=I.cell x c e;exact free c o (λz=>(hch c z).2.2.1 x c e rfl) ho (I.freeC x c e)
 ·obtain⟨e,n,ne,nf,d⟩:=I.pin p hp;have nch:p.1 ∉ ch:=λz=>(hch p.1 z).2.2.2 p hp rfl;exact⟨keep p.1 p.2 ne nf nch e n,free p.1 p.2 nch e n,ne,nf,d⟩
theorem Inv.un {t':Nat}(I:Inv X pins σ H s)(u:Un X.fs [] H H' s.heap h')(hok:HOk X.prog X.w H' h'):Inv X pins σ H' { s with heap:=h',toks:=t' }:=by
 obtain⟨m,⟨o,es,ep,ho,r⟩,_⟩:=id I.loc;obtain⟨sl,hL⟩:=u.any ho I.free (by simp);exact I.step (g':=s.gens) (d':=s.drawn) (ch:=[]) (λ_ z=>nomatch z) (λb o _ hb _ e n=>u.keep b o e n hb (by simp)) (λb o _ hb _ e n=>u.slot b o e n hb (by simp)) (λb o _ e n=>u.free b o e n (by simp)) (λb o _ e=>u.there b o e (by simp)) u.tups u.frzs u.tbls (λm' hm=>by
  obtain⟨o',es',ep',ho',r'⟩:=hm;rw[ho] at ho';cases ho';exact⟨_,es',ep',hL,r'⟩) hok I.bare
theorem Inv.call {g':Array GenState}{t':Nat}{d':Drawn}{ch:List Addr}(I:Inv X pins σ H s)(u:Un (frs X.stack) ch H H' s.heap h')(hok:HOk X.prog X.w H' h')(hg:AllBare g')
 (hch:∀ b∈ch,(b∈X.ex∨X.s₀.heap.objs.size≤b)∧b≠X.env.locals∧(∀ x c,X.env.cells.lookup x=some c→c≠b)∧∀ p∈X.pn++pins,p.1≠b) :
 Inv X pins σ H' { s with heap:=h',gens:=g',drawn:=d',toks:=t' }:=by
 obtain⟨m,⟨o,es,ep,ho,r⟩,_⟩:=id I.loc;obtain⟨sl,hL⟩:=u.any ho I.free λz=>(hch _ z).2.1 rfl;exact I.step (ch:=ch) hch (λb o hL hb hc e n=>u.keep b o e n (λz=>(List.mem_cons.mp (I.stkSub b z)).elim hL hb) hc) (λb o _ _ hc e n=>u.any e n hc) (λb o hc e n=>u.free b o e n hc) (λb o hc e=>u.there b o e hc) u.tups u.frzs u.tbls (λm' hm=>by
  obtain⟨o',es',ep',ho',r'⟩:=hm;rw[ho] at ho';cases ho';exact⟨_,es',ep',hL,r'⟩) hok hg
theorem Inv.turned {t':Nat}{it:Addr}(I:Inv X pins σ H s)(k:∀ b o,b≠it→s.heap.get? b=some o→h'.get? b=some o)(hn:H it=none)(hL:it≠X.env.locals)
 (h1:it∈X.ex∨X.s₀.heap.objs.size≤it) (h2:∀ x c,X.env.cells.lookup x=some c→c≠it) (h3:∀ p∈X.pn++pins,p.1≠it):Inv X pins σ H { s with heap:=h',toks:=t' }:=by
 have nit:∀ b u,H b=some u→b≠it:=λb u e z=>by rw[z,hn] at e;cases e
 refine I.step (g':=s.gens) (d':=s.drawn) (ch:=[it]) (λb hb=>?_) (λb o _ _ hc e _=>k b o (λz=>hc (by simp[z])) e) (λb o _ _ hc e _=>⟨o.slots,k b o (λz=>hc (by simp[z])) e⟩) (λ_ _ _ _ n=>n)
  (λb o hc e=>⟨o,k b o (λz=>hc (by simp[z])) e⟩) (λ_ _ e=>e) (λ_ _ _ e=>e) (λb ps e=>⟨#[],by rw[e];simp⟩) (λm hm=>?_) (λb u e=>?_) I.bare
 ·have e:b=it:=by simpa using hb
  subst e;exact⟨h1,hL,h2,h3⟩
 ·obtain⟨o,es,ep,ho,r⟩:=hm;exact⟨o,es,ep,k _ o (Ne.symm hL) ho,r⟩
 ·refine (I.hok b u e).stay (λc v hc q=>k c v ?_ q) (λ_ q=>q) λ_ _ q=>q
  rcases hc with z|z
  ·rw[z];exact nit b u e
  ·exact nit c _ z
theorem Inv.tok (I:Inv X pins σ H s)(t:Nat):Inv X pins σ H { s with toks:=t }:=I.un (h':=s.heap) (t':=t) Un.refl I.hok
theorem Inv.kept {t':Nat}(I:Inv X pins σ H s)(k:∀ b u,s.heap.get? b=some u→h'.get? b=some u):Inv X pins σ H { s with heap:=h',toks:=t' }:=I.un (Un.kept k) (I.hok.kept k)
theorem Inv.laid {a:Addr}{o:HO}{t':Nat}(I:Inv X pins σ H s)(k:∀ b u,s.heap.get? b=some u→h'.get? b=some u)(hp:s.heap.objs.size≤a)(new:ObjOk X.prog X.w (upd H a o) h' a o) :
 Inv X pins σ (upd H a o) { s with heap:=h',toks:=t' }:=I.un (Un.laid k hp (I.hok.fresh hp)) (I.hok.laid k hp new)
theorem Inv.write {x e:Addr}{o:HO}{t':Nat}(I:Inv X pins σ H s)(mu:Mut (H x))(he:e=x∨H e=some (.own x))(k:∀ b u,b≠e→s.heap.get? b=some u→h'.get? b=some u)(heo:∃ u,h'.get? e=some u)
 (new:ObjOk X.prog X.w (upd H x o) h' x o):Inv X pins σ (upd H x o) { s with heap:=h',toks:=t' }:=I.un (Un.write mu he k heo) (I.hok.write mu he k heo new)
theorem Inv.pins_of {pins':List (Addr×Obj)}(I:Inv X pins σ H s)(h:∀ p∈pins',s.heap.get? p.1=some p.2∧H p.1=none∧p.1≠X.env.locals∧p.1 ∉ X.fs∧∀ v,p.2.data≠.cell v):Inv X pins' σ H s:=
 ⟨I.ok,I.os,I.bare,I.base,I.loc,I.cell,I.free,I.freeC,λp hp=>(List.mem_append.mp hp).elim (λz=>I.pin p (List.mem_append_left _ z)) (h p),I.hok,I.len⟩
theorem Z2c {N:List Str}(hN:N.Nodup){i j:Nat}{x:Str}(a:N[i]? = some x)(b:N[j]? = some x):i=j:=by
 obtain⟨h1,e1⟩:=List.getElem?_eq_some_iff.mp a;obtain⟨h2,e2⟩:=List.getElem?_eq_some_iff.mp b;exact (List.getElem_inj hN).mp (e1.trans e2.symm)
theorem Z4Z {M:Model}{A:Around}{E:Value→Shared→Prop}{i:Nat}{x:Str}{v:V}{u:Value}{Q:Unit→Shared→Prop}(I:Inv X pins σ H s)(hN:X.N.Nodup)(hi:X.N[i]? = some x)(hx:Loc X.env.scope x)(r:RelV v u)
 (h:∀ s',Inv X pins (σ.set i (some v)) H s'→(∃ a,Heap.SameBut a s.heap s'.heap∧(a=X.env.locals∨X.env.cells.lookup x=some a))→Q () s') (hf:X.fn x=true∨X.env.scope.names.lookup x=some .local:=by first|exact .inl rfl|exact .inr rfl|assumption):wpAny M A (storeName X.env x u) Q E s:=by
 obtain⟨m,hn,hl⟩:=id I.loc;have hcls:(X.env.scope.kind == .class || (X.env.scope.kind == .module && X.env.locals != X.env.globals))=false:=by rw[I.ok.kind];rfl
 have hiσ:i < σ.length:=by rw[I.len];exact (List.getElem?_eq_some_iff.mp hi).1
 have cne:=I.cne;have tracked:∀ {a:Addr}{h':Heap},(∃ o,s.heap.get? a=some o∧H a=none)→Heap.SameBut a s.heap h'→HOk X.prog X.w H h':=fun {a h'} ha hs b ob e=>by
  obtain⟨_,_,hfree⟩:=ha;refine (I.hok b ob e).stay (λc w' hc q=>(hs.2 c ?_).trans q) (λ_ q=>q) λ_ _ q=>q;rintro rfl
  rcases hc with rfl|hc
  ·rw[hfree] at e;cases e
  ·rw[hfree] at hc;cases hc
 rcases hx with hk|hk
 ·refine wpAny_storeName_local hk hn (λh' hn' hs=>?_) hcls;obtain⟨oL,_,_,hoL,_⟩:=id hn;refine h _ ⟨I.ok,I.os,I.bare,⟨λb o e n hb hx=>?_,λb o e n hb hx=>?_,I.base.free,λb o e hx=>?_,I.base.tups,I.base.frzs,I.base.tbls⟩,⟨_,hn',λj y v' e1 e2 e3=>?_⟩,λy c e=>?_,I.free,I.freeC,λp hp=>?_,tracked ⟨oL,hoL,I.free⟩ hs,by simpa using I.len⟩ ⟨_,hs,.inl rfl⟩
  ·exact (hs.2 b (Nat.ne_of_lt (Nat.lt_of_lt_of_le (Heap.lt_size e) I.ok.above))).trans (I.base.keep b o e n hb hx)
  ·obtain⟨sl,e1⟩:=I.base.slot b o e n hb hx;exact⟨sl,(hs.2 b (Nat.ne_of_lt (Nat.lt_of_lt_of_le (Heap.lt_size e) I.ok.above))).trans e1⟩
  ·obtain⟨o',e1⟩:=I.base.there b o e hx;exact⟨o',(hs.2 b (Nat.ne_of_lt (Nat.lt_of_lt_of_le (Heap.lt_size e) I.ok.above))).trans e1⟩
  ·by_cases hj:j=i
   ·subst hj;rw[hi] at e1;cases e1;rw[List.getElem?_set_self hiσ] at e2;cases e2;exact⟨u,r,.inl ⟨hk,by simp⟩⟩
   ·rw[List.getElem?_set_ne (Ne.symm hj)] at e2;obtain⟨u',r',q⟩:=hl j y v' e1 e2 e3;refine⟨u',r',?_⟩
    rcases q with⟨k,e⟩|⟨k,c,e,z⟩
    ·refine .inl ⟨k,?_⟩;have:y≠x:=λe=>hj (Z2c hN e1 (e▸hi));simp[this,e]
    ·exact .inr ⟨k,c,e,z.sameBut hs (cne y c e)⟩
  ·obtain⟨w',z⟩:=I.cell y c e;exact⟨w',z.sameBut hs (cne y c e)⟩
  ·obtain⟨e,n,ne,nf,d⟩:=I.pin p hp;exact⟨(hs.2 p.1 ne).trans e,n,ne,nf,d⟩
 ·have hfn:X.fn x=true:=by
   rcases hf with z|z
   ·exact z
   ·rw[z] at hk;cases hk
  obtain⟨c,hc⟩:=I.ok.has x (.inl hk);obtain⟨w',z⟩:=I.cell x c hc;refine wpAny_storeName_cell I.ok.kind hk hc z (λh' hc' hs=>?_);obtain⟨oc,hoc,hocd⟩:=id z;refine h { s with heap:=h' } ⟨I.ok,I.os,I.bare,⟨λb o e n hb hx=>?_,λb o e n hb hx=>?_,I.base.free,λb o e hx=>?_,I.base.tups,I.base.frzs,I.base.tbls⟩,⟨m,hn.sameBut hs (Ne.symm (cne x c hc)),λj y v' e1 e2 e3=>?_⟩,λy c' e=>?_,I.free,I.freeC,λp hp=>?_,tracked ⟨oc,hoc,I.freeC x c hc⟩ hs,by simpa using I.len⟩ ⟨c,hs,.inr hc⟩
  ·exact (hs.2 b (Nat.ne_of_lt (Nat.lt_of_lt_of_le (Heap.lt_size e) (I.ok.cab x c hfn hc)))).trans (I.base.keep b o e n hb hx)
  ·obtain⟨sl,e1⟩:=I.base.slot b o e n hb hx;exact⟨sl,(hs.2 b (Nat.ne_of_lt (Nat.lt_of_lt_of_le (Heap.lt_size e) (I.ok.cab x c hfn hc)))).trans e1⟩
  ·obtain⟨o',e1⟩:=I.base.there b o e hx;exact⟨o',(hs.2 b (Nat.ne_of_lt (Nat.lt_of_lt_of_le (Heap.lt_size e) (I.ok.cab x c hfn hc)))).trans e1⟩
  ·by_cases hj:j=i
   ·subst hj;rw[hi] at e1;cases e1;rw[List.getElem?_set_self hiσ] at e2;cases e2;exact⟨u,r,.inr ⟨.inl hk,c,hc,hc'⟩⟩
   ·rw[List.getElem?_set_ne (Ne.symm hj)] at e2;obtain⟨u',r',q⟩:=hl j y v' e1 e2 e3;refine⟨u',r',?_⟩
    rcases q with q|⟨k,c',e,z'⟩
    ·exact .inl q
    ·refine .inr ⟨k,c',e,z'.sameBut hs ?_⟩;rintro rfl;exact hj (Z2c hN e1 (I.ok.inj _ _ _ e hc▸hi))
  ·by_cases hcc:c'=c
   ·subst hcc;exact⟨_,hc'⟩
   ·obtain⟨w2,z2⟩:=I.cell y c' e;exact⟨w2,z2.sameBut hs hcc⟩
  ·obtain⟨e,n,ne,nf,d⟩:=I.pin p hp;refine⟨(hs.2 p.1 ?_).trans e,n,ne,nf,d⟩;intro q;rw[q,hoc] at e;have q':oc=p.2:=Option.some.inj e;exact d w' (by rw[←q'];exact hocd)
theorem Z0q {M:Model}{A:Around}{E:Value→Shared→Prop}{i:Nat}{x:Str}{v:V}{u:Value}{Q:Unit→Shared→Prop}(I:Inv X pins σ H s)(hN:X.N.Nodup)(hi:X.N[i]? = some x)(hx:Loc X.env.scope x)(r:RelV v u)
 (h:∀ s',Inv X pins (σ.set i (some v)) H s'→Q () s') (hf:X.fn x=true∨X.env.scope.names.lookup x=some .local:=by first|exact .inl rfl|exact .inr rfl|assumption):wpAny M A (storeName X.env x u) Q E s:=
 Z4Z I hN hi hx r (λs' I' _=>h s' I') hf
theorem Inv.call' {s':Shared}{ch:List Addr}(I:Inv X pins σ H s)(ho:s'.os=s.os)(u:Un (frs X.stack) ch H H' s.heap s'.heap)(hok:HOk X.prog X.w H' s'.heap)(hg:AllBare s'.gens)
 (hch:∀ b∈ch,(b∈X.ex∨X.s₀.heap.objs.size≤b)∧b≠X.env.locals∧(∀ x c,X.env.cells.lookup x=some c→c≠b)∧∀ p∈X.pn++pins,p.1≠b):Inv X pins σ H' s':=by
 obtain⟨h',g',d',t',o'⟩:=s';have e:o'=s.os:=ho;subst e;exact I.call (g':=g') (t':=t') (d':=d') u hok hg hch
end
noncomputable abbrev XK:=Value→Option Addr→Hp→Prop
noncomputable abbrev St:=List (Option V)
noncomputable abbrev VK:=V→Hp→Prop
noncomputable abbrev TE:=St→Hp→VK→Prop
noncomputable abbrev TT:=St→Hp→(Bool→Hp→Prop)→Prop
noncomputable abbrev TA:=St→Hp→(List V→Hp→Prop)→Prop
structure Ends where
 nx:St→Hp→Prop
 rt:VK
 bk:St→Hp→Prop:=λ_ _=>False
 ct:St→Hp→Prop:=λ_ _=>False
noncomputable abbrev TS:=Ends→St→Hp→Prop
noncomputable def EP (X:Cx)(pins:List (Addr×Obj))(σ:St)(Q:VK)(u:Value)(s':Shared):Prop:=∃ v H',Inv X pins σ H' s'∧RelV v u∧Q v H'
noncomputable def TP (X:Cx)(pins:List (Addr×Obj))(σ:St)(Q:Bool→Hp→Prop)(b:Bool)(s':Shared):Prop:=∃ H',Inv X pins σ H' s'∧Q b H'
noncomputable def AP (X:Cx)(pins:List (Addr×Obj))(σ:St)(Q:List V→Hp→Prop)(us:List Value)(s':Shared):Prop:=∃ vs H',Inv X pins σ H' s'∧Vals vs us∧Q vs H'
noncomputable def SP (X:Cx)(pins:List (Addr×Obj))(D:Ends)(f:Flow)(s':Shared):Prop:=
 match f with
 | .next=>∃ σ' H',Inv X pins σ' H' s'∧D.nx σ' H'
 | .brk=>∃ σ' H',Inv X pins σ' H' s'∧D.bk σ' H'
 | .cont=>∃ σ' H',Inv X pins σ' H' s'∧D.ct σ' H'
 | .ret u=>∃ v σ' H',Inv X pins σ' H' s'∧RelV v u∧D.rt v H'
noncomputable def PE (X:Cx)(e:Expr)(t:TE):Prop:=
 ∀ (pins:List (Addr×Obj)) (s:Shared) (σ:St) (H:Hp) (Q:VK),Inv X pins σ H s→t σ H Q→wpAny (model X.prog X.w) X.A (eval e X.env) (EP X pins σ Q) X.xe s
noncomputable def PT (X:Cx)(e:Expr)(t:TT):Prop:=
 ∀ (pins:List (Addr×Obj)) (s:Shared) (σ:St) (H:Hp) (Q:Bool→Hp→Prop),Inv X pins σ H s→t σ H Q→wpAny (model X.prog X.w) X.A (isTrue e X.env (eval e X.env)) (TP X pins σ Q) X.xe s
noncomputable def PW (X:Cx)(e:Expr)(t:TT):Prop:=
 ∀ (whole:Sem Value) (pins:List (Addr×Obj)) (s:Shared) (σ:St) (H:Hp) (Q:Bool→Hp→Prop),Inv X pins σ H s→t σ H Q→wpAny (model X.prog X.w) X.A (isTrue e X.env whole) (TP X pins σ Q) X.xe s
theorem PW.pt {X:Cx}{e:Expr}{t:TT}(h:PW X e t):PT X e t:=h _
noncomputable def PA (X:Cx)(es:List Expr)(t:TA):Prop:=
 ∀ (pos:Pos) (pins:List (Addr×Obj)) (s:Shared) (σ:St) (H:Hp) (Q:List V→Hp→Prop),Inv X pins σ H s→t σ H Q→wpAny (model X.prog X.w) X.A (spliced (backTo pos (starEach es X.env))) (AP X pins σ Q) X.xe s
noncomputable def PS (X:Cx)(st:Stmt)(t:TS):Prop:=
 ∀ (pins:List (Addr×Obj)) (s:Shared) (σ:St) (H:Hp) (D:Ends),Inv X pins σ H s→t D σ H→wpAny (model X.prog X.w) X.A (exec st X.env) (SP X pins D) X.xe s
noncomputable def PSs (X:Cx)(st:List Stmt)(t:TS):Prop:=
 ∀ (pins:List (Addr×Obj)) (s:Shared) (σ:St) (H:Hp) (D:Ends),Inv X pins σ H s→t D σ H→wpAny (model X.prog X.w) X.A (execs st X.env) (SP X pins D) X.xe s
theorem thn {α:Type}{t:Sem α}{Q Q':α→Shared→Prop}{M:Model}{A:Around}{E:Value→Shared→Prop}{s:Shared}(h:wpAny M A t Q E s)(hQ:∀ a s,Q a s→Q' a s):wpAny M A t Q' E s:=wpAny_mono h hQ λ_ _ x=>x
section
variable {X:Cx}
noncomputable def XX (i:Nat):TE:=λσ H Q=>∃ v,σ[i]? = some (some v)∧Q v H
noncomputable def tC (v:V):TE:=λ_ H Q=>Q v H
theorem Z7s {i:Nat}{x:Str}{pos:Pos}(hN:X.N[i]? = some x)(hv:Vis X.env.scope x)(hd:(x == ("__debug__" : Str))=false:=by decide)(hcd:(x == ("__classdict__" : Str))=false:=by decide):PE X (.Name x pos) (XX i):=by
 intro pins s σ H Q I h;obtain⟨v,e,h⟩:=h;obtain⟨m,hn,hl⟩:=I.loc;obtain⟨u,r,l⟩:=hl i x v hN e hv;have fin:EP X pins σ Q u s:=⟨v,H,I,r,h⟩
 rcases l with⟨hk,hm⟩|⟨hk,c,hc,hcell⟩
 ·exact wpAny_Name (wpAny_loadName_local I.ok.kind hk hn hm fin) hd
 ·rcases hk with hk|hk
  ·exact wpAny_Name (wpAny_loadName_cell I.ok.kind hk hc hcell fin) hd
  ·exact wpAny_Name (wpAny_loadName_free I.ok.kind hk hc hcell fin hcd) hd
theorem Z5 {i j pos}:PE X (.Constant (.int i) j pos) (tC (.int i)):=λ_ _ _ H _ I h=>wpAny_Constant_int ⟨.int i,H,I.tok _,⟨_,rfl⟩,h⟩
theorem Xo {b j pos}:PE X (.Constant (.bool b) j pos) (tC (.bl b)):=λ_ _ _ H _ I h=>Constant_bool ⟨.bl b,H,I,rfl,h⟩
theorem Z4r {j pos}:PE X (.Constant .none j pos) (tC .non):=λ_ _ _ H _ I h=>Constant_none ⟨.non,H,I,rfl,h⟩
theorem Zw {x j pos}:PE X (.Constant (.str x) j pos) (tC (.str x)):=λ_ _ _ H _ I h=>Calls.Constant_str ⟨.str x,H,I.tok _,⟨_,rfl⟩,h⟩
noncomputable def Gl (X:Cx)(x:Str):Prop:=X.env.kindOf x=some .globalImplicit
theorem YV {E:Value→Shared→Prop}{pins:List (Addr×Obj)}{s:Shared}{σ:St}{H:Hp}{x:Str}{u:Value}{pos:Pos}{Q:Value→Shared→Prop}(I:Inv X pins σ H s)(hg:Gl X x)(hm:X.mg x=some u)(h:Q u s)
 (hd:(x == ("__debug__" : Str))=false:=by decide):wpAny (model X.prog X.w) X.A (eval (.Name x pos) X.env) Q E s:=
 Calls.Name_function_global I.ok.kind hg (Calls.loadGlobal_global (by rw[I.ok.glob];exact I.mod.glob.keeps I.bk) hm h) hd
theorem Jj {E:Value→Shared→Prop}{pins:List (Addr×Obj)}{s:Shared}{σ:St}{H:Hp}{x:Str}{u:Value}{pos:Pos}{Q:Value→Shared→Prop}(I:Inv X pins σ H s)(hg:Gl X x)(hm:X.mg x=none)(hv:bootBuiltins x=some u)(h:Q u s)
 (hn:x≠"__name__":=by decide) (hd:(x == ("__debug__" : Str))=false:=by decide):wpAny (model X.prog X.w) X.A (eval (.Name x pos) X.env) Q E s:=by
 obtain⟨mb,h1,h2⟩:=I.mod.blt;exact Calls.Name_function_global I.ok.kind hg (Calls.loadGlobal_builtin (by rw[I.ok.glob];exact I.mod.glob.keeps I.bk) hm (by rw[I.ok.blt];exact h1.keeps I.bk) ((h2 x hn).trans hv) h) hd
theorem Z3w {x:Str}{v:V}{u:Value}{pos:Pos}(hg:Gl X x)(hm:X.mg x=some u)(r:RelV v u)(hd:(x == ("__debug__" : Str))=false:=by decide):PE X (.Name x pos) (tC v):=
 λ_ _ _ H _ I h=>YV I hg hm ⟨v,H,I,r,h⟩ hd
variable {a b:Expr}{ta tb:TE}{pos:Pos}
noncomputable def tB (t:TE):TT:=λσ H Q=>t σ H λx H1=>∃ c,x=.bl c∧Q c H1
theorem Xb {e:Expr}{t:TE}(h:PE X e t)(he:∀ whole,isTrue e X.env whole=(do let v←whole;standAt e.pos;holding [v] (truthy v)):=by intro _;rfl):PT X e (tB t):=by
 intro pins s σ H Q I hw;refine isTrue_plain (thn (h pins s σ H _ I hw) λv s1 zq=>?_) (he _);obtain⟨x,H1,I1,r1,q1⟩:=zq;obtain⟨d,rfl,q⟩:=q1;cases r1;exact wpAny_truthy_bool ⟨H1,I1,q⟩
variable {tA tB':TT}{YM:List Expr}
noncomputable def Z7x (t u:TT):TT:=λσ H Q=>t σ H λc H1=>if c=true then u σ H1 Q else Q false H1
noncomputable def tOr (t u:TT):TT:=λσ H Q=>t σ H λc H1=>if c=true then Q true H1 else u σ H1 Q
noncomputable def Z5W (t:TT):TT:=λσ H Q=>t σ H λc H1=>Q (!c) H1
theorem Jh (ha:PT X a tA):PW X (.BoolOp .And [a] pos) tA:=by
 intro wh pins s σ H Q I h;refine isTrue_and (thn (ha pins s σ H Q I h) λc s1 e=>?_);cases c with
 | true=>exact isTrue_and_nil e
 | false=>exact e
theorem Z1Y (ha:PT X a tA):PW X (.BoolOp .Or [a] pos) tA:=by
 intro wh pins s σ H Q I h;refine isTrue_or (thn (ha pins s σ H Q I h) λc s1 e=>?_);cases c with
 | false=>exact isTrue_or_nil e
 | true=>exact e
theorem J9 (ha:PT X a tA)(hb:PW X (.BoolOp .And (b::YM) pos) tB'):PW X (.BoolOp .And (a::b::YM) pos) (Z7x tA tB'):=by
 intro wh pins s σ H Q I h;refine isTrue_and (thn (ha pins s σ H _ I h) λc s1 zq=>?_);obtain⟨H1,I1,q1⟩:=zq;cases c with
 | true=>exact hb wh pins s1 σ H1 Q I1 q1
 | false=>exact⟨H1,I1,q1⟩
theorem Z40 (ha:PT X a tA)(hb:PW X (.BoolOp .Or (b::YM) pos) tB'):PW X (.BoolOp .Or (a::b::YM) pos) (tOr tA tB'):=by
 intro wh pins s σ H Q I h;refine isTrue_or (thn (ha pins s σ H _ I h) λc s1 zq=>?_);obtain⟨H1,I1,q1⟩:=zq;cases c with
 | true=>exact⟨H1,I1,q1⟩
 | false=>exact hb wh pins s1 σ H1 Q I1 q1
theorem Xd (ha:PT X a tA):PT X (.UnaryOp .Not a pos) (Z5W tA):=by
 intro pins s σ H Q I h;exact isTrue_not (ha pins s σ H (λc H1=>Q (!c) H1) I h)
noncomputable def Z6C (ta tb:TE):TE:=λσ H Q=>ta σ H λx H1=>∃ c,x=.bl c∧if c=true then tb σ H1 Q else Q (.bl false) H1
noncomputable def Z6A (ta:TE):TE:=λσ H Q=>ta σ H λx H1=>∃ c,x=.bl c∧Q (.bl (!c)) H1
theorem Z5o {op}{t:TE}(h:PE X a t):PE X (.BoolOp op [a] pos) t:=λpins s σ H Q I hw=>BoolOp_one (h pins s σ H Q I hw)
theorem Z4q (ha:PE X a ta)(hb:PE X (.BoolOp .And (b::YM) pos) tb):PE X (.BoolOp .And (a::b::YM) pos) (Z6C ta tb):=by
 intro pins s σ H Q I h;refine BoolOp_and (thn (ha pins s σ H _ I h) λv s1 zq=>?_);obtain⟨x,H1,I1,r1,q1⟩:=zq;obtain⟨c,rfl,q1⟩:=q1;cases r1;refine wpAny_truthy_bool ?_;cases c with
 | true=>exact hb pins s1 σ H1 Q I1 q1
 | false=>exact⟨.bl false,H1,I1,rfl,q1⟩
theorem Z7m (ha:PE X a ta):PE X (.UnaryOp .Not a pos) (Z6A ta):=by
 intro pins s σ H Q I h;refine UnaryOp_ (thn (ha pins s σ H _ I h) λv s1 zq=>?_);obtain⟨x,H1,I1,r1,q1⟩:=zq;obtain⟨c,rfl,q1⟩:=q1;cases r1;exact not_of (wpAny_truthy_bool ⟨.bl (!c),H1,I1,rfl,q1⟩)
noncomputable def tIf (t:TT)(ta tb:TE):TE:=λσ H Q=>t σ H λc H1=>if c=true then ta σ H1 Q else tb σ H1 Q
theorem Z2K {c:Expr}(hc:PT X c tA)(ha:PE X a ta)(hb:PE X b tb):PE X (.IfExp c a b pos) (tIf tA ta tb):=by
 intro pins s σ H Q I h;refine wpAny_IfExp (thn (hc pins s σ H _ I h) λd s1 zq=>?_);obtain⟨H1,I1,q1⟩:=zq;cases d with
 | true=>exact ha pins s1 σ H1 Q I1 q1
 | false=>exact hb pins s1 σ H1 Q I1 q1
end
noncomputable def SqL (K:W.Frag)(H:Hp)(a:Addr)(xs:List V):Prop:=
 Rd H a (.lst xs)∨
  ∃ (o:Obj) (its:Array Value) (n:Nat),K.lookup a=some o∧o.cls=.type "list"∧o.dict=none∧o.data=.seq its n∧its.size≤sizeLine∧Vals xs its.toList
noncomputable def SqT (K:W.Frag)(H:Hp)(a:Addr)(xs:List V):Prop:=
 Rd H a (.tup xs)∨
  ∃ (o:Obj) (its:Array Value) (n:Nat),K.lookup a=some o∧o.cls=.type "tuple"∧o.data=.seq its n∧its.size≤sizeLine∧Vals xs its.toList
noncomputable def Z8d:Value→Option V
 | .none=>some .non
 | .bool b=>some (.bl b)
 | .int i _=>some (.int i)
 | .str x _=>some (.str x)
 | .bytes b _=>some (.byt b)
 | .float b _=>some (.flt b)
 | .ref a=>some (.ref a)
 | .type n=>some (.ty n)
 | _=>none
theorem RelV.abs {x:V}{u:Value}(r:RelV x u):Z8d u=some x:=by
 cases x with
 | non=>cases r;rfl
 | bl _=>cases r;rfl
 | int _=>obtain⟨t,rfl⟩:=r;rfl
 | str _=>obtain⟨t,rfl⟩:=r;rfl
 | byt _=>obtain⟨t,rfl⟩:=r;rfl
 | flt _=>obtain⟨t,rfl⟩:=r;rfl
 | ref _=>cases r;rfl
 | ty _=>cases r;rfl
theorem RelV.inj {x y:V}{u:Value}(r:RelV x u)(q:RelV y u):x=y:=Option.some.inj (r.abs.symm.trans q.abs)
theorem Vals.inj:∀ {xs ys:List V}{us:List Value},Vals xs us→Vals ys us→xs=ys
 | _,_,_,.nil,.nil=>rfl
 | _,_,_,.cons r t,.cons r' t'=>by rw[r.inj r',Vals.inj t t']
section
variable {X:Cx}{pins:List (Addr×Obj)}{σ:St}{H:Hp}{s:Shared}{a:Addr}{xs ys:List V}
theorem SqL.of {K:W.Frag}(h:H a=some (.lst xs)):SqL K H a xs:=.inl (.inl h)
theorem SqT.of {K:W.Frag}(h:H a=some (.tup xs)):SqT K H a xs:=.inl (.inl h)
theorem Inv.list (I:Inv X pins σ H s)(h:SqL X.K H a xs):∃ its:List Value,Vals xs its∧PlainL s.heap a its.toArray∧xs.length≤sizeLine:=by
 rcases h with h|⟨o,its,n,hk,hc,hd,hs,hz,r⟩
 ·obtain⟨z,its,n,r,e⟩:=h.ok I.hok;exact⟨its,r,⟨_,n,e,rfl,rfl,rfl⟩,z⟩
 ·refine⟨its.toList,r,⟨o,n,I.kIn a o hk,hc,hd,by simpa using hs⟩,?_⟩;have e:=r.length;simp only[Array.length_toList] at e;omega
theorem Inv.tuple (I:Inv X pins σ H s)(h:SqT X.K H a xs):∃ its:List Value,Vals xs its∧IsTup s.heap a its.toArray∧xs.length≤sizeLine:=by
 rcases h with h|⟨o,its,n,hk,hc,hs,hz,r⟩
 ·obtain⟨z,its,r,p⟩:=h.ok I.hok;exact⟨its,r,p,z⟩
 ·refine⟨its.toList,r,⟨o,I.kIn a o hk,hc,n,by simpa using hs⟩,?_⟩;have e:=r.length;simp only[Array.length_toList] at e;omega
theorem Inv.list_inj (I:Inv X pins σ H s)(h:SqL X.K H a xs)(h':SqL X.K H a ys):xs=ys:=by
 obtain⟨its,r,⟨o,n,e,_,_,d⟩,_⟩:=I.list h;obtain⟨its',r',⟨o',n',e',_,_,d'⟩,_⟩:=I.list h';rw[e] at e';cases e';rw[d] at d';injection d' with d1 _
 have:its=its':=by simpa using congrArg Array.toList d1
 subst this;exact r.inj r'
end
noncomputable abbrev Cx.wish (X:Cx)(E:Value→Shared→Prop):Cx:={ X with xe:=E }
noncomputable abbrev Cx.nox (X:Cx):Cx:=X.wish λ_ _=>False
theorem Cx.Ok.wish {X:Cx}(ok:X.Ok)(E:Value→Shared→Prop):(X.wish E).Ok:=
 ⟨ok.mod,ok.kind,ok.glob,ok.blt,ok.above,ok.inj,ok.has,ok.cab,ok.hd,ok.frames,ok.stk,ok.exf,ok.bs,ok.bsz,ok.noex,ok.exfs,ok.funs,ok.frf⟩
theorem Cx.Ok.unwish {X:Cx}{E:Value→Shared→Prop}(ok:(X.wish E).Ok):X.Ok:=
 ⟨ok.mod,ok.kind,ok.glob,ok.blt,ok.above,ok.inj,ok.has,ok.cab,ok.hd,ok.frames,ok.stk,ok.exf,ok.bs,ok.bsz,ok.noex,ok.exfs,ok.funs,ok.frf⟩
section
variable {X:Cx}{pins:List (Addr×Obj)}{σ:St}{H:Hp}{s:Shared}{E:Value→Shared→Prop}
theorem Inv.wish (I:Inv X pins σ H s)(E:Value→Shared→Prop):Inv (X.wish E) pins σ H s:=⟨I.ok.wish E,I.os,I.bare,I.base,I.loc,I.cell,I.free,I.freeC,I.pin,I.hok,I.len⟩
theorem Inv.unwish (I:Inv (X.wish E) pins σ H s):Inv X pins σ H s:=⟨I.ok.unwish,I.os,I.bare,I.base,I.loc,I.cell,I.free,I.freeC,I.pin,I.hok,I.len⟩
theorem SP.unwish {D:Ends}{f:Flow}{s':Shared}(h:SP (X.wish E) pins D f s'):SP X pins D f s':=by
 cases f with
 | next=>obtain⟨σ',H',I,q⟩:=h;exact⟨σ',H',I.unwish,q⟩
 | brk=>obtain⟨σ',H',I,q⟩:=h;exact⟨σ',H',I.unwish,q⟩
 | cont=>obtain⟨σ',H',I,q⟩:=h;exact⟨σ',H',I.unwish,q⟩
 | ret u=>obtain⟨v,σ',H',I,r,q⟩:=h;exact⟨v,σ',H',I.unwish,r,q⟩
theorem PSs.nox {st:List Stmt}{t:TS}(h:PSs X.nox st t):PSs X st t:=λpins s σ H D I hw=>
 wpAny_mono (h pins s σ H D (I.wish _) hw) (λ_ _ q=>q.unwish) λ_ _ z=>False.elim z
end
section
variable {X:Cx}{st:Stmt}{YM:List Stmt}{t u:TS}{e:Expr}{te:TE}{pos:Pos}
noncomputable def Z3Z:TS:=λD σ H=>D.nx σ H
noncomputable def Z2z (t u:TS):TS:=λD σ H=>t { D with nx:=u D } σ H
theorem Zm:PSs X [] Z3Z:=λ_ _ σ H _ I h=>wpAny_execs_nil ⟨σ,H,I,h⟩
theorem Z7 (h1:PS X st t)(h2:PSs X YM u):PSs X (st::YM) (Z2z t u):=by
 intro pins s σ H D I h;refine wpAny_execs_cons (thn (h1 pins s σ H { D with nx:=u D } I h) λf s1 q=>?_);cases f with
 | next=>
   obtain⟨σ',H',I',q⟩:=q;exact h2 pins s1 σ' H' D I' q
 | ret v=>exact q
 | brk=>exact q
 | cont=>exact q
theorem Z8 (h1:PS X st t):PSs X [st] t:=by
 intro pins s σ H D I h;refine wpAny_execs_cons (thn (h1 pins s σ H D I h) λf s1 q=>?_);cases f with
 | next=>exact wpAny_execs_nil q
 | ret v=>exact q
 | brk=>exact q
 | cont=>exact q
theorem Inv.quiet {pins:List (Addr×Obj)}{σ:St}{H:Hp}{s:Shared}(I:Inv X pins σ H s):interactive X.env=false:=by simp[interactive,I.ok.kind]
noncomputable def Z6r (te:TE):TS:=λD σ H=>te σ H λ_ H1=>D.nx σ H1
theorem Zh (he:PE X e te)(hs:swapsWith e none pos.line X.env=pure false:=by rfl):PS X (.Expr e pos) (Z6r te):=by
 intro pins s σ H D I h;exact wpAny_Expr_any (thn (he pins s σ H _ I h) λv s1 ⟨x,H1,I1,r1,q1⟩=>⟨σ,H1,I1,q1⟩) I.quiet hs
noncomputable def Z3C (te:TE):TS:=λD σ H=>te σ H D.rt
theorem Zj (he:PE X e te):PS X (.Return (some e) pos) (Z3C te):=by
 intro pins s σ H D I h;exact wpAny_Return_some (thn (he pins s σ H _ I h) λv s1 ⟨x,H1,I1,r1,q1⟩=>⟨x,σ,H1,I1,r1,q1⟩)
noncomputable def Z83:TS:=λD _ H=>D.rt .non H
theorem Z7c:PS X (.Return none pos) Z83:=λ_ _ σ H _ I h=>wpAny_Return_none ⟨.non,σ,H,I,rfl,h⟩
noncomputable def Z2U (c:TT)(t u:TS):TS:=λD σ H=>c σ H λb H1=>if b=true then t D σ H1 else u D σ H1
theorem Zr {c:Expr}{a b:List Stmt}{tc:TT}(hc:PT X c tc)(ha:PSs X a t)(hb:PSs X b u):PS X (.If c a b pos) (Z2U tc t u):=by
 intro pins s σ H D I h;refine wpAny_If (thn (hc pins s σ H _ I h) λd s1 zq=>?_);obtain⟨H1,I1,q1⟩:=zq;cases d with
 | true=>exact ha pins s1 σ H1 D I1 q1
 | false=>exact hb pins s1 σ H1 D I1 q1
noncomputable def Z7W:TS:=λ_ _ _=>False
theorem ZG:PS X st Z7W:=λ_ _ _ _ _ _ h=>h.elim
end
noncomputable abbrev TG:=V→St→Hp→(St→Hp→Prop)→Prop
noncomputable abbrev TGs:=List V→St→Hp→(St→Hp→Prop)→Prop
noncomputable def PG (X:Cx)(target:Expr)(t:TG):Prop:=
 ∀ (pins:List (Addr×Obj)) (s:Shared) (σ:St) (H:Hp) (v:V) (u:Value) (Q:St→Hp→Prop),Inv X pins σ H s→RelV v u→t v σ H Q→
   wpAny (model X.prog X.w) X.A (assign target X.env u) (λ_ s'=>∃ σ' H',Inv X pins σ' H' s'∧Q σ' H') X.xe s
noncomputable def PGs (X:Cx)(ts:List Expr)(t:TGs):Prop:=
 ∀ (pins:List (Addr×Obj)) (s:Shared) (σ:St) (H:Hp) (vs:List V) (us:List Value) (Q:St→Hp→Prop),Inv X pins σ H s→Vals vs us→t vs σ H Q→
   wpAny (model X.prog X.w) X.A (assignInOrder ((assignEach ts X.env).map (·.2)) us) (λ_ s'=>∃ σ' H',Inv X pins σ' H' s'∧Q σ' H') X.xe s
noncomputable abbrev Z46:=V→V→V→Hp→(Hp→Prop)→Prop
noncomputable def Z7p (X:Cx)(t:Z46):Prop:=
 ∀ (pins:List (Addr×Obj)) (s:Shared) (σ:St) (H:Hp) (o i v:V) (ov iv u:Value) (Q:Hp→Prop),Inv X pins σ H s→RelV o ov→RelV i iv→RelV v u→t o i v H Q→
   wpAny (model X.prog X.w) X.A (setItem ov iv u) (λ_ s'=>∃ H',Inv X pins σ H' s'∧Q H') X.xe s
section
variable {X:Cx}{pos:Pos}
noncomputable def Z0P (i:Nat):TG:=λv σ H Q=>Q (σ.set i (some v)) H
theorem Zu {i:Nat}{x:Str}(hN:X.N.Nodup)(hi:X.N[i]? = some x)(hx:Loc X.env.scope x)(hf:X.fn x=true∨X.env.scope.names.lookup x=some .local:=by first|exact .inl rfl|exact .inr rfl|assumption):PG X (.Name x pos) (Z0P i):=by
 intro pins s σ H v u Q I r h;exact wpAny_assign_Name (Z0q I hN hi hx r (λs' I'=>⟨_,H,I',h⟩) hf)
noncomputable def Z7J:TGs:=λvs σ H Q=>vs=[]∧Q σ H
noncomputable def Z4i (t:TG)(u:TGs):TGs:=λvs σ H Q=>∃ v r,vs=v::r∧t v σ H λσ' H'=>u r σ' H' Q
theorem Jc:PGs X [] Z7J:=by
 intro pins s σ H vs us Q I r h;obtain⟨e,h⟩:=h;subst e;cases r;exact assignInOrder_nil ⟨σ,H,I,h⟩
theorem ZV {e:Expr}{es:List Expr}{t:TG}{u:TGs}(h1:PG X e t)(h2:PGs X es u)
 (hs:(assignEach (e::es) X.env).map (·.2)=assign e X.env::(assignEach es X.env).map (·.2):=by rfl):PGs X (e::es) (Z4i t u):=by
 intro pins s σ H vs us Q I r h;obtain⟨v,vr,e1,h⟩:=h;subst e1;cases r with
 | cons r rr=>
   rw[hs];refine assignInOrder_cons (thn (h1 pins s σ H _ _ _ I r h) λ_ s1 zq=>?_);obtain⟨σ1,H1,I1,q1⟩:=zq;exact h2 pins s1 σ1 H1 _ _ Q I1 rr q1
noncomputable def Z5I (K:W.Frag)(n:Nat)(t:TGs):TG:=λv σ H Q=>∃ a xs,v=.ref a∧SqT K H a xs∧xs.length=n∧t xs σ H Q
theorem Z7i {es:List Expr}{k:Nat}{t:TGs}{n:Nat}(hc:X.calm=true)(h:PGs X es t)
 (hn:(assignEach es X.env).length=n:=by rfl) (hst:(assignEach es X.env).findIdx? (·.1)=none:=by rfl):PG X (.Tuple es k pos) (Z5I X.K n t):=by
 intro pins s σ H v u Q I r hw;obtain⟨a,xs,e1,hq,hl,hw⟩:=hw;subst e1;cases r;obtain⟨its,rv,ht,hz⟩:=I.tuple hq;refine assign_Tuple_tuple (I.ok.hd hc) ht (by simp[hn,←hl,rv.length]) hst λh' hx=>?_;have I1:Inv X pins σ H { s with heap:=h' }:=I.kept (t':=s.toks) λb o e=>hx b o (Nat.ne_of_lt (Heap.lt_size e)) e;exact h pins _ σ H xs _ Q I1 (by simpa using rv) hw
noncomputable def Z7k (to ti:TE)(t:Z46):TG:=λv σ H Q=>to σ H λo H1=>ti σ H1 λi H2=>t o i v H2 λH3=>Q σ H3
theorem JS {o i:Expr}{to ti:TE}{t:Z46}(ho:PE X o to)(hi:PE X i ti)(hs:Z7p X t)
 (ha:∀ v,assign (.Subscript o i pos) X.env v=(do
   let ov←holding [v] (eval o X.env)
   let iv←holding [v,ov] (eval i X.env)
   standAt pos
   holding [v,ov,iv] (setItem ov iv v)
   release [v,ov,iv] []):=by intro _;rfl):PG X (.Subscript o i pos) (Z7k to ti t):=by
 intro pins s σ H v u Q I r h;rw[ha];refine wpAny_bind (wpAny_holding (thn (ho pins s σ H _ I h) λov s1 zq=>?_));obtain⟨x,H1,I1,r1,q1⟩:=zq;refine wpAny_bind (wpAny_holding (thn (hi pins s1 σ H1 _ I1 q1) λiv s2 zq=>?_));obtain⟨y,H2,I2,r2,q2⟩:=zq;refine wpAny_bind (wpAny_standAt (wpAny_bind (wpAny_holding (thn (hs pins s2 σ H2 x y v ov iv u _ I2 r1 r2 r q2) λ_ s3 zq=>?_))));obtain⟨H3,I3,q3⟩:=zq;exact wpAny_release ⟨σ,H3,I3,q3⟩
noncomputable def Z4k (te:TE)(g:TG):TS:=λD σ H=>te σ H λx H1=>g x σ H1 D.nx
theorem JM {tg e:Expr}{te:TE}{g:TG}(he:PE X e te)(hg:PG X tg g)(hs:swapsWithSole [tg] e pos.line X.env=pure false:=by rfl)(hw:swappedStores [tg] e X.env=pure none:=by rfl)
 (h1:(assignEach [tg] X.env).map (·.2)=[assign tg X.env]:=by rfl):PS X (.Assign [tg] e pos) (Z4k te g):=by
 intro pins s σ H D I h;refine wpAny_Assign_stores (thn (he pins s σ H _ I h) λv s1 zq=>?_) hs hw;obtain⟨x,H1,I1,r1,q1⟩:=zq;rw[h1];exact thn (hg pins s1 σ H1 x v _ I1 r1 q1) λ_ s2 q=>q
theorem Zq {i:Nat}{x:Str}{e:Expr}{te:TE}{pos':Pos}(hN:X.N.Nodup)(hi:X.N[i]? = some x)(hx:Loc X.env.scope x)(he:PE X e te)(hs:swapsWith e (some (.Name x pos')) pos.line X.env=pure false:=by rfl)(hf:X.fn x=true∨X.env.scope.names.lookup x=some .local:=by first|exact .inl rfl|exact .inr rfl|assumption) :
 PS X (.Assign [.Name x pos'] e pos) (Z4k te (Z0P i)):=by
 intro pins s σ H D I h;refine wpAny_Assign_Name (thn (he pins s σ H _ I h) λv s1 zq=>?_) hs;obtain⟨y,H1,I1,r1,q1⟩:=zq;exact Z0q I1 hN hi hx r1 (λs2 I2=>⟨_,H1,I2,q1⟩) hf
end
section
variable {X:Cx}{pos:Pos}
end
structure It where
 go:Nat→Hp→Prop
 yld:Nat→Hp→V→Hp→Prop
 stop:Nat→Hp→Prop
noncomputable def X4 (X:Cx)(pins:List (Addr×Obj))(H:Hp)(b:Addr):Prop:=
 H b=none∧b≠X.env.locals∧b ∉ X.fs∧(b∈X.ex∨X.s₀.heap.objs.size≤b)∧(∀ x c,X.env.cells.lookup x=some c→c≠b)∧∀ p∈X.pn++pins,p.1≠b
theorem Inv.fpOk {X:Cx}{pins:List (Addr×Obj)}{σ:St}{H H':Hp}{s:Shared}{b:Addr}(I:Inv X pins σ H s)(hb:s.heap.objs.size≤b)(hn:H' b=none):X4 X pins H' b:=by
 refine⟨hn,Nat.ne_of_gt (Nat.lt_of_lt_of_le I.lt hb),I.nofs hb,.inr (Nat.le_trans I.sz hb),λx c e z=>?_,λp hp z=>?_⟩
 ·obtain⟨v,q⟩:=I.cell x c e;exact absurd (Nat.lt_of_lt_of_le q.lt (by rw[z];exact hb)) (Nat.lt_irrefl _)
 ·exact absurd (Nat.lt_of_lt_of_le (Heap.lt_size (I.pin p hp).1) (by rw[z];exact hb)) (Nat.lt_irrefl _)
structure Turn (P:Program)(w:World)(K:W.Frag)(tg:Expr)(J:It)(fp:List Addr)(it:Addr)(tn:Nat→Heap→Prop):Prop where
 mem:it∈fp
 obj:∀ i h,tn i h→∀ b∈fp,∃ o,h.get? b=some o∧∀ v,o.data≠.cell v
 keep:∀ i h h',tn i h→(∀ b∈fp,∀ o,h.get? b=some o→h'.get? b=some o)→tn i h'
 item:∀ (X:Cx),X.prog=P→X.w=w→X.K=K→X.calm=true→∀ (i:Nat) (pins:List (Addr×Obj)) (s:Shared) (σ:St) (H:Hp) (E:Value→Shared→Prop),Inv X pins σ H s→(∀ b∈fp,X4 X pins H b)→tn i s.heap→J.go i H→
  wpAny (model P w) X.A (pyNext (.ref it)) (λr s1=>∃ u,r=some u∧
   wpAny (model P w) X.A (letOwnedTupleGo tg (.ref it) u) (λ_ s2=>∃ x H',Inv X pins σ H' s2∧RelV x u∧J.yld i H x H'∧tn (i + 1) s2.heap∧∀ b∈fp,H' b=none) E s1) E s
 done:∀ (X:Cx),X.prog=P→X.w=w→X.K=K→X.calm=true→∀ (i:Nat) (pins:List (Addr×Obj)) (s:Shared) (σ:St) (H:Hp) (E:Value→Shared→Prop),Inv X pins σ H s→(∀ b∈fp,X4 X pins H b)→tn i s.heap→J.stop i H→
  wpAny (model P w) X.A (pyNext (.ref it)) (λr s1=>r=none∧Inv X pins σ H s1) E s
 self:∀ (A:Around) (i:Nat) (s:Shared) (Q:Value→Shared→Prop) (E:Value→Shared→Prop),tn i s.heap→Q (.ref it) s→wpAny (model P w) A (pyIter (.ref it)) Q E s
noncomputable abbrev TI:=St→Hp→(It→Hp→Prop)→Prop
noncomputable def PIE (X:Cx)(pins:List (Addr×Obj))(σ:St)(tg:Expr)(R:It→Hp→Prop)(itv:Value)(s2:Shared):Prop:=
 ∃ (it:Addr) (fp:List Addr) (tn:Nat→Heap→Prop) (J:It) (H':Hp),itv=.ref it∧Inv X pins σ H' s2∧Turn X.prog X.w X.K tg J fp it tn∧tn 0 s2.heap∧(∀ b∈fp,X4 X pins H' b)∧R J H'
noncomputable def PI (X:Cx)(tg iter:Expr)(wi:TI):Prop:=
 ∀ (pins:List (Addr×Obj)) (s:Shared) (σ:St) (H:Hp) (R:It→Hp→Prop),Inv X pins σ H s→wi σ H R→
   wpAny (model X.prog X.w) X.A (eval iter X.env) (λv s1=>wpAny (model X.prog X.w) X.A (pyIter v) (PIE X pins σ tg R) X.xe s1) X.xe s
theorem Z1U {M:Model}{A:Around}{E:Value→Shared→Prop}{s:Shared}{tg:Expr}{it:Addr}{u:Value}{o:Obj}{n:String}{vs:Array Value}{Q:Unit→Shared→Prop}(ho:s.heap.get? it=some o)(hc:o.cls=.type n)(hd:o.data=.fields vs)
 (hn:["enumerate","zip","dict_itemiterator","dict_reverseitemiterator","odict_iterator","itertools.zip_longest","itertools.pairwise"].contains n=false) (hQ:Q () s):wpAny M A (letOwnedTupleGo tg (.ref it) u) Q E s:=by
 unfold letOwnedTupleGo;cases tg<;>first
  | exact wpAny_pure hQ
  | (cases u<;>first
      | exact wpAny_pure hQ
      | (refine wpAny_bind (wpAny_load ho ?_)
         rw[hc,hd];show wpAny M A (if (["enumerate","zip","dict_itemiterator","dict_reverseitemiterator","odict_iterator","itertools.zip_longest","itertools.pairwise"].contains n && vs[0]? == some (rawInt _))=true then _ else _) Q E s;rw[if_neg (by intro h;rw[hn,Bool.false_and] at h;cases h)];exact wpAny_pure hQ))
noncomputable def Itl (K:W.Frag)(a:Addr):It:=
 ⟨λi H=>∃ xs x,SqL K H a xs∧xs[i]? = some x,λi H x H'=>H'=H∧∀ xs,SqL K H a xs→xs[i]? = some x,λi H=>∃ xs,SqL K H a xs∧xs.length≤i⟩
noncomputable def Itr (lo:Int)(n:Nat):It:=⟨λi _=>i < n,λi H x H'=>H'=H∧x=.int (lo + i),λi _=>n≤i⟩
theorem Z5i {P:Program}{w:World}{K:W.Frag}{tg:Expr}(a it:Addr):Turn P w K tg (Itl K a) [it] it (λi h=>h.IsListIter it a i) where
 mem:=by simp
 obj:=λi h st b hb=>by
  have e:b=it:=by simpa using hb
  subst e;obtain⟨o,e,c,d⟩:=st;exact⟨o,e,λv z=>by rw[d] at z;cases z⟩
 keep:=λi h h' st k=>st.at λo e=>k it (by simp) o e
 item:=by
  intro X hP hw hK hc i pins s σ H E I hf st hg;subst hP hw hK;obtain⟨xs,x,hq,hx⟩:=hg;obtain⟨its,rv,p,hz⟩:=I.list hq;obtain⟨u,hu,ru⟩:=rv.get hx;obtain⟨f0,f1,f2,f3,f4,f5⟩:=hf it (by simp);refine wpAny_pyNext_list_item st p.isList (x:=u) (by simpa using hu) λh' st' sb=>?_;have I1:Inv X pins σ H { s with heap:=h' }:=I.turned (t':=s.toks) (λb o hb e=>(sb.2 b hb).trans e) f0 f1 f3 f4 f5;obtain⟨o,e,c,d⟩:=id st';exact⟨u,rfl,Z1U (s:={ s with heap:=h' }) e c d (by decide) ⟨x,H,I1,ru,⟨rfl,λys hy=>by rw[I.list_inj hy hq];exact hx⟩,st',λb hb=>(hf b hb).1⟩⟩
 done:=by
  intro X hP hw hK hc i pins s σ H E I hf st hg;subst hP hw hK;obtain⟨xs,hq,hx⟩:=hg;obtain⟨its,rv,p,hz⟩:=I.list hq;obtain⟨f0,f1,f2,f3,f4,f5⟩:=hf it (by simp);have hl:=rv.length;exact wpAny_pyNext_list_end (I.ok.hd hc) st p.isList (by simp;omega) λh' eb=>⟨rfl,I.turned (t':=s.toks) (λb o hb e=>eb b o hb e) f0 f1 f3 f4 f5⟩
 self:=λ_ _ _ _ _ st h=>wpAny_pyIter_listiter st h
theorem Z42 {P:Program}{w:World}{K:W.Frag}{tg:Expr}(it:Addr)(lo:Int)(n:Nat):Turn P w K tg (Itr lo n) [it] it (λi h=>IsRangeIter h it (lo + (i:Nat) * 1) ((n:Int) - (i:Nat)) 1) where
 mem:=by simp
 obj:=λi h st b hb=>by
  have e:b=it:=by simpa using hb
  subst e;exact⟨_,st,λv z=>by
   have z':Data.fields _=Data.cell v:=z;cases z'⟩
 keep:=λi h h' st k=>k it (by simp) _ st
 item:=by
  intro X hP hw hK hc i pins s σ H E I hf st hg;subst hP hw hK;obtain⟨f0,f1,f2,f3,f4,f5⟩:=hf it (by simp);have W:=Walks.range (prog:=X.prog) (w:=X.w) (I.ok.hd hc) it lo 1 n;refine W.item i s _ _ hg st λv h' tk hv st' kk=>?_;obtain⟨t,rfl⟩:=hv;have I1:Inv X pins σ H { s with heap:=h',toks:=tk }:=I.turned (λb o hb e=>kk b o (by simpa using hb) e) f0 f1 f3 f4 f5;refine⟨_,rfl,Z1U (s:={ s with heap:=h',toks:=tk }) (n:="range_iterator") st' rfl rfl (by decide) ⟨.int (lo + i),H,I1,⟨t,?_⟩,⟨rfl,rfl⟩,st',λb hb=>(hf b hb).1⟩⟩;rw[Int.mul_one]
 done:=by
  intro X hP hw hK hc i pins s σ H E I hf st hg;subst hP hw hK;obtain⟨f0,f1,f2,f3,f4,f5⟩:=hf it (by simp);exact wpAny_pyNext_range_end (I.ok.hd hc) st (by have:n≤i:=hg;omega) λh' eb=>⟨rfl,I.turned (t':=s.toks) (λb o hb e=>eb b o hb e) f0 f1 f3 f4 f5⟩
 self:=λ_ _ _ _ _ st h=>wpAny_pyIter_rangeiter st h
section
variable {X:Cx}{tg:Expr}
noncomputable def Z6u (K:W.Frag)(tl:TE):TI:=λσ H R=>tl σ H λx H1=>∃ a,x=.ref a∧(∃ xs,SqL K H1 a xs)∧R (Itl K a) H1
theorem Z73 {l:Expr}{tl:TE}(hl:PE X l tl):PI X tg l (Z6u X.K tl):=by
 intro pins s σ H R I h;refine thn (hl pins s σ H _ I h) λv s1 zq=>?_;obtain⟨x,H1,I1,r1,q1⟩:=zq;obtain⟨a,e,⟨xs,hq⟩,q⟩:=q1;subst e;cases r1;obtain⟨its,rv,p,hz⟩:=I1.list hq;refine wpAny_pyIter_list p.isList ?_;refine⟨s1.heap.objs.size,[s1.heap.objs.size],_,_,H1,rfl,I1.kept (t':=s1.toks) λb o e=>Heap.get?_push_of_some _ e,Z5i a _,⟨_,Heap.get?_push_size _ rfl,rfl,rfl⟩,λb hb=>?_,q⟩;have e:b=s1.heap.objs.size:=by simpa using hb
 subst e;exact I1.fpOk (Nat.le_refl _) (I1.hok.fresh (Nat.le_refl _))
theorem Z2v {pins:List (Addr×Obj)}{σ:St}{H:Hp}{s:Shared}{R:It→Hp→Prop}{E:Value→Shared→Prop}{lo hi:Int}{t u v:Tok}{tk:Nat}(I:Inv X pins σ H s)(h1:-(2 ^ 62)≤lo)(h2:lo < 2 ^ 62)(h3:-(2 ^ 62)≤hi)(h4:hi < 2 ^ 62)
 (q:R (Itr lo (hi - lo).toNat) H):wpAny (model X.prog X.w) X.A (pyIter (.ref s.heap.objs.size)) (PIE X pins σ tg R) E { s with heap:=s.heap.push { cls:=.type "range",data:=.fields #[.int lo t,.int hi u,.int 1 v] },toks:=tk }:=by
 refine wpAny_pyIter_range (IsRange.new ..) (small_one h1 h2 h3 h4) ?_;have I1:Inv X pins σ H { s with heap:=s.heap.push { cls:=.type "range",data:=.fields #[.int lo t,.int hi u,.int 1 v] },toks:=tk }:=I.kept λb o e=>Heap.get?_push_of_some _ e;refine⟨(s.heap.push { cls:=.type "range",data:=.fields #[.int lo t,.int hi u,.int 1 v] }).objs.size,[(s.heap.push { cls:=.type "range",data:=.fields #[.int lo t,.int hi u,.int 1 v] }).objs.size],_,_,H,rfl,
  I1.kept (t':=tk) λb o e=>Heap.get?_push_of_some _ e,Z42 _ lo (hi - lo).toNat,?_,λb hb=>?_,q⟩
 ·have e1:lo + ((0:Nat):Int) * 1=lo:=by simp
  have e2:(((hi - lo).toNat:Nat):Int) - ((0:Nat):Int)=Builtin.Range.rangeSize lo hi 1:=by rw[rangeSize_one];split<;>omega
  show IsRangeIter _ _ (lo + ((0:Nat):Int) * 1) ((((hi - lo).toNat:Nat):Int) - ((0:Nat):Int)) 1;rw[e1,e2];exact Heap.get?_push_size _ rfl
 ·have e:b=(s.heap.push { cls:=.type "range",data:=.fields #[.int lo t,.int hi u,.int 1 v] }).objs.size:=by simpa using hb
  subst e;exact I1.fpOk (Nat.le_refl _) (I1.hok.fresh (Nat.le_refl _))
noncomputable def Z6x (ta:TA):TI:=λσ H R=>ta σ H λvs H1=>∃ j:Int,vs=[.int j]∧-(2 ^ 62)≤j∧j < 2 ^ 62∧R (Itr 0 j.toNat) H1
noncomputable def Z6v (ta:TA):TI:=λσ H R=>ta σ H λvs H1=>∃ i j:Int,vs=[.int i,.int j]∧(-(2 ^ 62)≤i∧i < 2 ^ 62∧-(2 ^ 62)≤j∧j < 2 ^ 62)∧R (Itr i (j - i).toNat) H1
theorem XT {a:Expr}{ta:TA}{p pos:Pos}(hg:Gl X "range")(hm:X.mg "range" = none)(ha:PA X [a] ta)(hs:starEach [a] X.env=[(false,eval a X.env)]:=by rfl):PI X tg (.Call (.Name "range" p) [a] [] pos) (Z6x ta):=by
 intro pins s σ H R I h;refine Call_ (Jj I hg hm boot_range (PyProof.Rows.callWith_type1 (thn (ha pos pins s σ H _ I h) λus s1 zq=>?_) hs rfl));obtain⟨vs,H1,I1,r1,q1⟩:=zq;obtain⟨j,e,q1,q2,q⟩:=q1;subst e;cases r1 with
 | cons r rr=>
   cases rr;obtain⟨t,rfl⟩:=r;exact call_range_1 (Z2v I1 (by omega) (by omega) q1 q2 (by simpa using q))
theorem Z58 {a b:Expr}{ta:TA}{p pos:Pos}(hg:Gl X "range")(hm:X.mg "range" = none)(ha:PA X [a,b] ta)(hs:starEach [a,b] X.env=[(false,eval a X.env),(false,eval b X.env)]:=by rfl)(hs2:starEach [b] X.env=[(false,eval b X.env)]:=by rfl) :
 PI X tg (.Call (.Name "range" p) [a,b] [] pos) (Z6v ta):=by
 intro pins s σ H R I h;refine Call_ (Jj I hg hm boot_range (PyProof.Rows.callWith_type1 (thn (ha pos pins s σ H _ I h) λus s1 zq=>?_) (by rw[hs,hs2]) (by rw[hs2];rfl)));obtain⟨vs,H1,I1,r1,q1⟩:=zq;obtain⟨i,j,e,⟨q1,q2,q3,q4⟩,q⟩:=q1;subst e;cases r1 with
 | cons r rr=>
   cases rr with
   | cons r' rr=>
     cases rr;obtain⟨t,rfl⟩:=r;obtain⟨t',rfl⟩:=r';exact call_range_2 (Z2v I1 q1 q2 q3 q4 q)
noncomputable def Z5u (wi:TI)(g:TG)(tb:TS):TS:=λD σ H=>wi σ H λJ H1=>∃ W:Nat→Nat→St→Hp→Prop,(∃ m,W 0 m σ H1)∧∀ i m σ H,W i m σ H→
 (J.stop i H∧D.nx σ H)∨(J.go i H∧∃ N:St→Hp→Prop,(∀ σ' H',N σ' H'→∃ m',m' < m∧W (i + 1) m' σ' H')∧∀ x H',J.yld i H x H'→g x σ H' λσ2 H2=>tb { D with nx:=N,ct:=N,bk:=D.nx } σ2 H2)
noncomputable def Z0L (fp:List Addr)(h:Heap):List (Addr×Obj):=fp.filterMap λb=>(h.get? b).map λo=>(b,o)
theorem ZO {fp:List Addr}{h:Heap}{b:Addr}{o:Obj}(hb:b∈fp)(e:h.get? b=some o):(b,o)∈Z0L fp h:=List.mem_filterMap.mpr ⟨b,hb,by rw[e];rfl⟩
theorem Z4o {fp:List Addr}{h:Heap}{p:Addr×Obj}(hp:p∈Z0L fp h):p.1∈fp∧h.get? p.1=some p.2:=by
 obtain⟨b,hb,e⟩:=List.mem_filterMap.mp hp;cases q:h.get? b with
 | none=>rw[q] at e;cases e
 | some o=>
   rw[q] at e;have e':(b,o)=p:=Option.some.inj e;subst e';exact⟨hb,q⟩
theorem Inv.pinned {pins:List (Addr×Obj)}{σ:St}{H:Hp}{s:Shared}{fp:List Addr}(I:Inv X pins σ H s)(hf:∀ b∈fp,X4 X pins H b)(ho:∀ b∈fp,∃ o,s.heap.get? b=some o∧∀ v,o.data≠.cell v):Inv X (pins++Z0L fp s.heap) σ H s:=
 I.pins_of λp hp=>(List.mem_append.mp hp).elim (λz=>I.pin p (List.mem_append_right _ z)) λz=>by
  obtain⟨hb,e⟩:=Z4o z;obtain⟨f0,f1,f2,_⟩:=hf p.1 hb;obtain⟨o,e',d⟩:=ho p.1 hb;rw[e] at e';cases e';exact⟨e,f0,f1,f2,d⟩
theorem Inv.unpinned {pins pl:List (Addr×Obj)}{σ:St}{H:Hp}{s:Shared}(I:Inv X (pins++pl) σ H s):Inv X pins σ H s:=I.pins_of λp hp=>I.pin p (List.mem_append_right _ (List.mem_append_left _ hp))
theorem X1 {iter:Expr}{body:List Stmt}{wi:TI}{g:TG}{tb:TS}{pos:Pos}(hp:PassesOwn (model X.prog X.w) X.A X.env X.xe)(hc:X.calm=true)(hi:PI X tg iter wi)(hg:PG X tg g)(hb:PSs X body tb)
 (hs:∀ x,foldedSetIterable iter X.env x=pure x:=by intro _;rfl):PS X (.For tg iter body [] pos) (Z5u wi g tb):=by
 intro pins s σ H D I h;refine wpAny_For (thn (hi pins s σ H _ I h) λv s1 h1=>thn h1 λitv s2 h2=>?_) hs;obtain⟨it,fp,tn,J,H2,e,I2,T,st2,f2,W,⟨m0,w0⟩,turn⟩:=h2;subst e;have stat:∀ {H':Hp},(∀ b∈fp,H' b=none)→∀ b∈fp,X4 X pins H' b:=λhn b hb=>⟨hn b hb,(f2 b hb).2⟩;refine codeAny_forLoop_any (λn s'=>∃ i σ' H',Inv X pins σ' H' s'∧tn i s'.heap∧(∀ b∈fp,H' b=none)∧W i n σ' H') ?_ m0 ⟨0,σ,H2,I2,st2,λb hb=>(f2 b hb).1,w0⟩;rintro n s3 ⟨i,σ3,H3,I3,st3,fr3,w3⟩
 rcases turn i n σ3 H3 w3 with⟨stop,qn⟩|⟨go,N,hN,step⟩
 ·refine wpAny_passesOwn hp (thn (T.done X rfl rfl rfl hc i pins s3 σ3 H3 X.xe I3 (stat fr3) st3 stop) λr s4 zq=>?_);obtain⟨hr,I4⟩:=zq;subst hr;exact wpAny_execs_nil ⟨σ3,H3,I4,qn⟩
 ·refine wpAny_passesOwn hp (thn (T.item X rfl rfl rfl hc i pins s3 σ3 H3 X.xe I3 (stat fr3) st3 go) λr s4 zq=>?_);obtain⟨u,hr,h4⟩:=zq;subst hr;refine wpAny_passesOwn hp (thn h4 λ_ s5 zq=>?_);obtain⟨x,H5,I5,r5,y5,st5,fr5⟩:=zq;have I5':=I5.pinned (stat fr5) (T.obj _ _ st5);refine wpAny_passesOwn hp (thn (hg _ s5 σ3 H5 x u _ I5' r5 (step x H5 y5)) λ_ s6 zq=>?_);obtain⟨σ6,H6,I6,q6⟩:=zq;refine wpAny_passesOwn hp (thn (hb _ s6 σ6 H6 _ I6 q6) λf s7 q7=>?_);have again:∀ {σ7:St}{H7:Hp},Inv X (pins++Z0L fp s5.heap) σ7 H7 s7→N σ7 H7→∃ m,m < n∧∃ i σ' H',Inv X pins σ' H' s7∧tn i s7.heap∧(∀ b∈fp,H' b=none)∧W i m σ' H':=fun {σ7 H7} I7 n7=>by
   obtain⟨m',hm,w7⟩:=hN σ7 H7 n7;refine⟨m',hm,i + 1,σ7,H7,I7.unpinned,T.keep _ _ _ st5 λb hb o e=>(I7.pin (b,o) (List.mem_append_right _ (List.mem_append_right _ (ZO hb e)))).1,λb hb=>?_,w7⟩;obtain⟨o,e,d⟩:=T.obj _ _ st5 b hb;exact (I7.pin (b,o) (List.mem_append_right _ (List.mem_append_right _ (ZO hb e)))).2.1
  cases f with
  | next=>obtain⟨σ7,H7,I7,n7⟩:=q7;exact again I7 n7
  | cont=>obtain⟨σ7,H7,I7,n7⟩:=q7;exact again I7 n7
  | brk=>obtain⟨σ7,H7,I7,q7⟩:=q7;exact⟨σ7,H7,I7.unpinned,q7⟩
  | ret v=>obtain⟨x7,σ7,H7,I7,r7,q7⟩:=q7;exact⟨x7,σ7,H7,I7.unpinned,r7,q7⟩
end
theorem Z1X {K:W.Frag}{a:Addr}{xs:List V}{g:TG}{tb:TS}{D:Ends}{σ:St}{H:Hp}(Pv:Nat→St→Hp→Prop)(h0:Pv 0 σ H)(hl:∀ i σ H,i≤xs.length→Pv i σ H→SqL K H a xs)
 (hs:∀ i x σ H,xs[i]? = some x→Pv i σ H→g x σ H λσ2 H2=>tb { D with nx:=Pv (i + 1),ct:=Pv (i + 1),bk:=D.nx } σ2 H2) (hd:∀ σ H,Pv xs.length σ H→D.nx σ H) :
 ∃ W:Nat→Nat→St→Hp→Prop,(∃ m,W 0 m σ H)∧∀ i m σ H,W i m σ H→
   ((Itl K a).stop i H∧D.nx σ H)∨((Itl K a).go i H∧∃ N:St→Hp→Prop,(∀ σ' H',N σ' H'→∃ m',m' < m∧W (i + 1) m' σ' H')∧∀ x H',(Itl K a).yld i H x H'→g x σ H' λσ2 H2=>tb { D with nx:=N,ct:=N,bk:=D.nx } σ2 H2):=by
 refine⟨λi m σ H=>m=xs.length - i∧i≤xs.length∧Pv i σ H,⟨xs.length,by simp,Nat.zero_le _,h0⟩,?_⟩;rintro i m σ H ⟨rfl,hi,p⟩;have q:=hl i σ H hi p
 by_cases hlt:i < xs.length
 ·refine .inr ⟨⟨xs,xs[i],q,by simp[hlt]⟩,Pv (i + 1),λσ' H' p'=>⟨xs.length - (i + 1),by omega,rfl,hlt,p'⟩,λx H' y=>?_⟩;obtain⟨e,y⟩:=y;subst e;exact hs i x σ _ (y xs q) p
 ·have e:i=xs.length:=by omega
  subst e;exact .inl ⟨⟨xs,q,Nat.le_refl _⟩,hd σ H p⟩
theorem Z4J {lo:Int}{n:Nat}{g:TG}{tb:TS}{D:Ends}{σ:St}{H:Hp}(Pv:Nat→St→Hp→Prop)(h0:Pv 0 σ H)
 (hs:∀ i σ H,i < n→Pv i σ H→g (.int (lo + i)) σ H λσ2 H2=>tb { D with nx:=Pv (i + 1),ct:=Pv (i + 1),bk:=D.nx } σ2 H2) (hd:∀ σ H,Pv n σ H→D.nx σ H) :
 ∃ W:Nat→Nat→St→Hp→Prop,(∃ m,W 0 m σ H)∧∀ i m σ H,W i m σ H→
   ((Itr lo n).stop i H∧D.nx σ H)∨((Itr lo n).go i H∧∃ N:St→Hp→Prop,(∀ σ' H',N σ' H'→∃ m',m' < m∧W (i + 1) m' σ' H')∧∀ x H',(Itr lo n).yld i H x H'→g x σ H' λσ2 H2=>tb { D with nx:=N,ct:=N,bk:=D.nx } σ2 H2):=by
 refine⟨λi m σ H=>m=n - i∧i≤n∧Pv i σ H,⟨n,by simp,Nat.zero_le _,h0⟩,?_⟩;rintro i m σ H ⟨rfl,hi,p⟩
 by_cases hlt:i < n
 ·refine .inr ⟨hlt,Pv (i + 1),λσ' H' p'=>⟨n - (i + 1),by omega,rfl,hlt,p'⟩,λx H' y=>?_⟩;obtain⟨e,y⟩:=y;subst e y;exact hs i σ _ hlt p
 ·have e:i=n:=by omega
  subst e;exact .inl ⟨Nat.le_refl _,hd σ H p⟩
noncomputable abbrev R2:=V→V→Hp→VK→Prop
noncomputable def OpR (X:Cx)(f:Value→Value→Sem Value)(r:R2):Prop:=
 ∀ (pins:List (Addr×Obj)) (s:Shared) (σ:St) (H:Hp) (x y:V) (v u:Value) (Q:VK),Inv X pins σ H s→RelV x v→RelV y u→r x y H Q→
   wpAny (model X.prog X.w) X.A (f v u) (EP X pins σ Q) X.xe s
noncomputable def UnR (X:Cx)(f:Value→Sem Value)(r:V→Hp→VK→Prop):Prop:=
 ∀ (pins:List (Addr×Obj)) (s:Shared) (σ:St) (H:Hp) (x:V) (v:Value) (Q:VK),Inv X pins σ H s→RelV x v→r x H Q→
   wpAny (model X.prog X.w) X.A (f v) (EP X pins σ Q) X.xe s
noncomputable def YK (X:Cx)(f:Value)(r:List V→Hp→VK→Prop):Prop:=
 ∀ (pins:List (Addr×Obj)) (s:Shared) (σ:St) (H:Hp) (xs:List V) (us:List Value) (Q:VK),Inv X pins σ H s→Vals xs us→r xs H Q→
   wpAny (model X.prog X.w) X.A (call f us) (EP X pins σ Q) X.xe s
noncomputable def Z8k (X:Cx)(r:V→Hp→(Bool→Hp→Prop)→Prop):Prop:=
 ∀ (pins:List (Addr×Obj)) (s:Shared) (σ:St) (H:Hp) (x:V) (v:Value) (Q:Bool→Hp→Prop),Inv X pins σ H s→RelV x v→r x H Q→
   wpAny (model X.prog X.w) X.A (truthy v) (TP X pins σ Q) X.xe s
noncomputable def tOp (r:R2)(ta tb:TE):TE:=λσ H Q=>ta σ H λx H1=>tb σ H1 λy H2=>r x y H2 Q
noncomputable def tUn (r:V→Hp→VK→Prop)(ta:TE):TE:=λσ H Q=>ta σ H λx H1=>r x H1 Q
noncomputable def rI (C:Int→Int→Prop)(g:Int→Int→V):R2:=λx y H Q=>∃ i j,x=.int i∧y=.int j∧C i j∧Q (g i j) H
noncomputable def rI0 (g:Int→Int→V):R2:=λx y H Q=>∃ i j,x=.int i∧y=.int j∧Q (g i j) H
noncomputable def rU (g:Int→V):V→Hp→VK→Prop:=λx H Q=>∃ i,x=.int i∧Q (g i) H
section
variable {X:Cx}{a b c:Expr}{ta tb tc:TE}{pos:Pos}
theorem Z5Z (ha:PE X a ta)(hb:PE X b tb){pins:List (Addr×Obj)}{s:Shared}{σ:St}{H:Hp}{R:V→V→Hp→Prop}(I:Inv X pins σ H s)
 (h:ta σ H λx H1=>tb σ H1 λy H2=>R x y H2) {Q:Value→Shared→Prop}{f:Value→Value→Sem Value}
 (hf:∀ v u s2 x y H2,Inv X pins σ H2 s2→RelV x v→RelV y u→R x y H2→wpAny (model X.prog X.w) X.A (f v u) Q X.xe s2) :
 wpAny (model X.prog X.w) X.A (eval a X.env) (λv s₁=>wpAny (model X.prog X.w) X.A (eval b X.env) (λu s₂=>wpAny (model X.prog X.w) X.A (f v u) Q X.xe s₂) X.xe s₁) X.xe s:=by
 refine thn (ha pins s σ H _ I h) λv s1 zq=>?_;obtain⟨x,H1,I1,r1,q1⟩:=zq;refine thn (hb pins s1 σ H1 _ I1 q1) λu s2 zq=>?_;obtain⟨y,H2,I2,r2,q2⟩:=zq;exact hf v u s2 x y H2 I2 r1 r2 q2
theorem Zl {op:Operator}{r:R2}(ho:OpR X (binaryOp op) r)(ha:PE X a ta)(hb:PE X b tb):PE X (.BinOp a op b pos) (tOp r ta tb):=by
 intro pins s σ H Q I h;exact wpAny_BinOp (Z5Z ha hb I h λv u s2 x y H2 I2 rx ry q=>ho pins s2 σ H2 x y v u Q I2 rx ry q)
theorem Z01 {op:UnaryOp}{r:V→Hp→VK→Prop}(ho:UnR X (unaryOp op) r)(ha:PE X a ta):PE X (.UnaryOp op a pos) (tUn r ta):=by
 intro pins s σ H Q I h;exact UnaryOp_ (thn (ha pins s σ H _ I h) λv s1 ⟨x,H1,I1,r1,q1⟩=>ho pins s1 σ H1 x v Q I1 r1 q1)
theorem opI {f:Value→Value→Sem Value}{C:Int→Int→Prop}{g:Int→Int→Int}
 (rule:∀ (i j:Int) (t u:Tok) (s:Shared) (Q:Value→Shared→Prop) (E:Value→Shared→Prop),C i j→Q (.int (g i j) s.toks) { s with toks:=s.toks + 1 }→wpAny (model X.prog X.w) X.A (f (.int i t) (.int j u)) Q E s) :
 OpR X f (rI C λi j=>.int (g i j)):=by
 intro pins s σ H x y v u Q I rx ry h;obtain⟨i,j,rfl,rfl,hc,q⟩:=h;obtain⟨t,rfl⟩:=rx;obtain⟨t',rfl⟩:=ry;exact rule i j t t' s _ _ hc ⟨.int (g i j),H,I.tok _,⟨_,rfl⟩,q⟩
theorem Z7R {f:Value→Value→Sem Value}{g:Int→Int→Int}
 (rule:∀ (i j:Int) (t u:Tok) (s:Shared) (Q:Value→Shared→Prop) (E:Value→Shared→Prop),Q (.int (g i j) s.toks) { s with toks:=s.toks + 1 }→wpAny (model X.prog X.w) X.A (f (.int i t) (.int j u)) Q E s) :
 OpR X f (rI0 λi j=>.int (g i j)):=by
 intro pins s σ H x y v u Q I rx ry h;obtain⟨i,j,rfl,rfl,q⟩:=h;obtain⟨t,rfl⟩:=rx;obtain⟨t',rfl⟩:=ry;exact rule i j t t' s _ _ ⟨.int (g i j),H,I.tok _,⟨_,rfl⟩,q⟩
theorem Z48 {f:Value→Value→Sem Value}{g:Int→Int→Bool}
 (rule:∀ (i j:Int) (t u:Tok) (s:Shared) (Q:Value→Shared→Prop) (E:Value→Shared→Prop),Q (.bool (g i j)) s→wpAny (model X.prog X.w) X.A (f (.int i t) (.int j u)) Q E s) :
 OpR X f (rI0 λi j=>.bl (g i j)):=by
 intro pins s σ H x y v u Q I rx ry h;obtain⟨i,j,rfl,rfl,q⟩:=h;obtain⟨t,rfl⟩:=rx;obtain⟨t',rfl⟩:=ry;exact rule i j t t' s _ _ ⟨.bl (g i j),H,I,rfl,q⟩
noncomputable def Z8f (i j:Int):Prop:=0 < j∧j < 1073741824
noncomputable def Z8p (i j:Int):Prop:=0≤j∧j≤1000000∧i.natAbs < 2 ^ 64
noncomputable def CMul (i j:Int):Prop:=(-(2 ^ 64) < i∧i < 2 ^ 64)∨(-(2 ^ 64) < j∧j < 2 ^ 64)
theorem CMul.ok {i j:Int}(h:CMul i j):IntMulOk i j:=by
 rcases h with⟨h1,h2⟩|⟨h1,h2⟩
 ·exact .of_left (intBits_le_64 h1 h2)
 ·exact .of_right (intBits_le_64 h1 h2)
theorem Yl:OpR X (binaryOp .Add) (rI0 λi j=>.int (i + j)):=Z7R λ_ _ _ _ _ _ _ q=>add_int q
theorem Z5b:OpR X (binaryOp .Sub) (rI0 λi j=>.int (i - j)):=Z7R λ_ _ _ _ _ _ _ q=>sub_int q
theorem Jd:OpR X (binaryOp .Mult) (rI CMul λi j=>.int (i * j)):=opI λ_ _ _ _ _ _ _ hc q=>mul_int q hc.ok
theorem Z00:OpR X (binaryOp .FloorDiv) (rI Z8f λi j=>.int (i / j)):=opI λi j _ _ _ _ _ hc q=>by
 have h1:(0:Int) < j:=hc.1;have h2:j < 1073741824:=hc.2;exact floordiv_int (by omega) (by rw[Int.fdiv_eq_ediv_of_nonneg i (by omega)];exact q) (.inl (PyProof.noPylong_small (by omega)))
theorem Yo:OpR X (binaryOp .Mod) (rI (λ_ j=>0 < j) λi j=>.int (i % j)):=opI λi j _ _ _ _ _ hc q=>by
 have h1:(0:Int) < j:=hc;exact mod_int' (by omega) (by rw[Int.fmod_eq_emod_of_nonneg i (by omega)];exact q)
theorem XC:OpR X (binaryOp .Pow) (rI Z8p λi j=>.int (i ^ j.toNat)):=opI λ_ _ _ _ _ _ _ hc q=>pow_int_small hc.1 hc.2.1 hc.2.2 q
theorem unI {f:Value→Sem Value}{g:Int→Int}
 (rule:∀ (i:Int) (t:Tok) (s:Shared) (Q:Value→Shared→Prop) (E:Value→Shared→Prop),Q (.int (g i) s.toks) { s with toks:=s.toks + 1 }→wpAny (model X.prog X.w) X.A (f (.int i t)) Q E s) :
 UnR X f (rU λi=>.int (g i)):=by
 intro pins s σ H x v Q I rx h;obtain⟨i,rfl,q⟩:=h;obtain⟨t,rfl⟩:=rx;exact rule i t s _ _ ⟨.int (g i),H,I.tok _,⟨_,rfl⟩,q⟩
theorem Jb:UnR X (unaryOp .USub) (rU λi=>.int (-i)):=unI λ_ _ _ _ _ q=>neg_int q
end
noncomputable def Z7F:V→V→Bool
 | .non,.non=>true|.non,.int _=>true|.int _,.non=>true|.non,.bl _=>true|.bl _,.non=>true|.non,.str _=>true|.str _,.non=>true
 | .int _,.int _=>true|.bl _,.bl _=>true|.str _,.str _=>true|.byt _,.byt _=>true
 | .int _,.str _=>true|.str _,.int _=>true|.bl _,.str _=>true|.str _,.bl _=>true
 | _,_=>false
noncomputable def rEq:R2:=λx y H Q=>Z7F x y=true∧Q (.bl (decide (x=y))) H
noncomputable def rNe:R2:=λx y H Q=>Z7F x y=true∧Q (.bl (!decide (x=y))) H
theorem Z3s {i j:Int}:decide (V.int i=V.int j)=(i == j):=by
 rw[Bool.eq_iff_iff];simp
theorem Z54 {i j:Bool}:decide (V.bl i=V.bl j)=(i == j):=by
 rw[Bool.eq_iff_iff];simp
theorem ZD {i j:Str}:decide (V.str i=V.str j)=(i == j):=by
 rw[Bool.eq_iff_iff];simp
theorem Z3u {i j:Array UInt8}:decide (V.byt i=V.byt j)=(i.toList == j.toList):=by
 rw[Bool.eq_iff_iff];cases i;cases j;simp
section
variable {X:Cx}{a b c:Expr}{ta tb tc:TE}{pos:Pos}
theorem Zt {pins:List (Addr×Obj)}{σ:St}{H:Hp}{s:Shared}{Q:VK}{k k':Bool}(I:Inv X pins σ H s)(q:Q (.bl k) H)(e:k=k'):EP X pins σ Q (.bool k') s:=by
 subst e;exact⟨.bl k,H,I,rfl,q⟩
theorem Y9:OpR X (compareOp .Eq) rEq:=by
 intro pins s σ H x y v u Q I rx ry h;obtain⟨hs,q⟩:=h;cases x with
 | non=>
   cases rx;cases y with
   | non=>cases ry;exact PySem.EqNone.eq_none_none (Zt I q (by simp))
   | bl j=>cases ry;exact PySem.EqNone.eq_none_bool (Zt I q (by simp))
   | int j=>obtain⟨t',rfl⟩:=ry;exact PySem.EqNone.eq_none_int (Zt I q (by simp))
   | str j=>obtain⟨t',rfl⟩:=ry;exact PySem.EqNone.eq_none_str (Zt I q (by simp))
   | _=>exact absurd (show false=true from hs) Bool.false_ne_true
 | bl i=>
   cases rx;cases y with
   | non=>cases ry;exact PySem.EqNone.eq_bool_none (Zt I q (by simp))
   | bl j=>cases ry;exact eq_bool (Zt I q Z54)
   | str j=>obtain⟨t',rfl⟩:=ry;exact PySem.EqMixed.eq_bool_str (Zt I q (by simp))
   | _=>exact absurd (show false=true from hs) Bool.false_ne_true
 | int i=>
   obtain⟨t,rfl⟩:=rx;cases y with
   | non=>cases ry;exact PySem.EqNone.eq_int_none (Zt I q (by simp))
   | int j=>obtain⟨t',rfl⟩:=ry;exact eq_int (Zt I q Z3s)
   | str j=>obtain⟨t',rfl⟩:=ry;exact PySem.EqMixed.eq_int_str (Zt I q (by simp))
   | _=>exact absurd (show false=true from hs) Bool.false_ne_true
 | str i=>
   obtain⟨t,rfl⟩:=rx;cases y with
   | non=>cases ry;exact PySem.EqNone.eq_str_none (Zt I q (by simp))
   | bl j=>cases ry;exact PySem.EqMixed.eq_str_bool (Zt I q (by simp))
   | int j=>obtain⟨t',rfl⟩:=ry;exact PySem.EqMixed.eq_str_int (Zt I q (by simp))
   | str j=>obtain⟨t',rfl⟩:=ry;exact eq_str (Zt I q ZD)
   | _=>exact absurd (show false=true from hs) Bool.false_ne_true
 | byt i=>
   obtain⟨t,rfl⟩:=rx;cases y with
   | byt j=>obtain⟨t',rfl⟩:=ry;exact W.eq_bytes (Zt I q Z3u)
   | _=>exact absurd (show false=true from hs) Bool.false_ne_true
 | _=>cases y<;>exact absurd (show false=true from hs) Bool.false_ne_true
theorem Z1R:OpR X (compareOp .NotEq) rNe:=by
 intro pins s σ H x y v u Q I rx ry h;obtain⟨hs,q⟩:=h;cases x with
 | non=>
   cases rx;cases y with
   | non=>cases ry;exact PySem.EqNone.ne_none_none (Zt I q (by simp))
   | bl j=>cases ry;exact PySem.EqNone.ne_none_bool (Zt I q (by simp))
   | int j=>obtain⟨t',rfl⟩:=ry;exact PySem.EqNone.ne_none_int (Zt I q (by simp))
   | str j=>obtain⟨t',rfl⟩:=ry;exact PySem.EqNone.ne_none_str (Zt I q (by simp))
   | _=>exact absurd (show false=true from hs) Bool.false_ne_true
 | bl i=>
   cases rx;cases y with
   | non=>cases ry;exact PySem.EqNone.ne_bool_none (Zt I q (by simp))
   | bl j=>cases ry;exact ne_bool (Zt I q (congrArg not Z54))
   | str j=>obtain⟨t',rfl⟩:=ry;exact PySem.EqMixed.ne_bool_str (Zt I q (by simp))
   | _=>exact absurd (show false=true from hs) Bool.false_ne_true
 | int i=>
   obtain⟨t,rfl⟩:=rx;cases y with
   | non=>cases ry;exact PySem.EqNone.ne_int_none (Zt I q (by simp))
   | int j=>obtain⟨t',rfl⟩:=ry;exact ne_int (Zt I q (congrArg not Z3s))
   | str j=>obtain⟨t',rfl⟩:=ry;exact PySem.EqMixed.ne_int_str (Zt I q (by simp))
   | _=>exact absurd (show false=true from hs) Bool.false_ne_true
 | str i=>
   obtain⟨t,rfl⟩:=rx;cases y with
   | non=>cases ry;exact PySem.EqNone.ne_str_none (Zt I q (by simp))
   | bl j=>cases ry;exact PySem.EqMixed.ne_str_bool (Zt I q (by simp))
   | int j=>obtain⟨t',rfl⟩:=ry;exact PySem.EqMixed.ne_str_int (Zt I q (by simp))
   | str j=>obtain⟨t',rfl⟩:=ry;exact ne_str (Zt I q (congrArg not ZD))
   | _=>exact absurd (show false=true from hs) Bool.false_ne_true
 | byt i=>
   obtain⟨t,rfl⟩:=rx;cases y with
   | byt j=>obtain⟨t',rfl⟩:=ry;exact W.ne_bytes (Zt I q (congrArg not Z3u))
   | _=>exact absurd (show false=true from hs) Bool.false_ne_true
 | _=>cases y<;>exact absurd (show false=true from hs) Bool.false_ne_true
theorem Z4j:OpR X (compareOp .Lt) (rI0 λi j=>.bl (decide (i < j))):=Z48 λ_ _ _ _ _ _ _ q=>lt_int q
theorem JZ:OpR X (compareOp .LtE) (rI0 λi j=>.bl (decide (i≤j))):=Z48 λ_ _ _ _ _ _ _ q=>le_int q
theorem Z0G:OpR X (compareOp .Gt) (rI0 λi j=>.bl (decide (j < i))):=Z48 λ_ _ _ _ _ _ _ q=>gt_int q
theorem Z6z:OpR X (compareOp .GtE) (rI0 λi j=>.bl (decide (j≤i))):=Z48 λ_ _ _ _ _ _ _ q=>ge_int q
theorem Z4L:OpR X (compareOp .In) (λx y H Q=>∃ i j,x=.str i∧y=.str j∧Q (.bl (!(Builtin.Str.occurrences j i 0 j.length 1).isEmpty)) H):=by
 intro pins s σ H x y v u Q I rx ry h;obtain⟨i,j,rfl,rfl,q⟩:=h;obtain⟨t,rfl⟩:=rx;obtain⟨t',rfl⟩:=ry;exact in_str (Zt I q rfl)
theorem Z7A:OpR X (compareOp .Is) (λx y H Q=>y=.non∧Q (.bl (decide (x=.non))) H):=by
 intro pins s σ H x y v u Q I rx ry h;obtain⟨rfl,q⟩:=h;cases ry;refine is_none_gen (Zt I q ?_);cases x<;>first
  | (cases rx;rfl)
  | (obtain⟨t,rfl⟩:=rx;rfl)
theorem Zp (b:Expr){op:CmpOp}(h:op≠.In:=by decide)(h2:op≠.NotIn:=by decide):behindInMarks op b=false:=by
 have e1:(op == CmpOp.In)=false:=by cases op<;>first|rfl|exact absurd rfl h
 have e2:(op == CmpOp.NotIn)=false:=by cases op<;>first|rfl|exact absurd rfl h2
 cases b<;>simp[behindInMarks,e1,e2]
theorem Z02 {op:CmpOp}{r:R2}(ho:OpR X (compareOp op) r)(ha:PE X a ta)(hb:PE X b tb)(hm:behindInMarks op b=false):PE X (.Compare a [op] [b] pos) (tOp r ta tb):=by
 intro pins s σ H Q I h;exact wpAny_Compare1 (Z5Z ha hb I h λv u s2 x y H2 I2 rx ry q=>ho pins s2 σ H2 x y v u Q I2 rx ry q) hm
noncomputable def Z1S (t:TE):TT:=λσ H Q=>t σ H λx H'=>∃ k,x=.bl k∧Q k H'
theorem Zk {op:CmpOp}{r:R2}(ho:OpR X (compareOp op) r)(ha:PE X a ta)(hb:PE X b tb)(hm:behindInMarks op b=false):PT X (.Compare a [op] [b] pos) (Z1S (tOp r ta tb)):=by
 intro pins s σ H Q I h;refine wpAny_isTrue_Compare1 (thn (ha pins s σ H _ I h) λv s1 ⟨x,H1,I1,r1,q1⟩=>thn (hb pins s1 σ H1 _ I1 q1) λu s2 ⟨y,H2,I2,r2,q2⟩=>
  thn (ho pins s2 σ H2 x y v u _ I2 r1 r2 q2) λc s3 ⟨z,H3,I3,r3,k,e,q3⟩=>?_) hm
 subst e;cases r3;exact wpAny_truthy_bool ⟨H3,I3,q3⟩
noncomputable def Z2R (r r':R2)(ta tb tc:TE):TE:=λσ H Q=>ta σ H λx H1=>tb σ H1 λy H2=>r x y H2 λz H3=>∃ k,z=.bl k∧
 (if k=true then tc σ H3 λw' H4=>r' y w' H4 Q else Q (.bl false) H3)
theorem Z5Q {op op':CmpOp}{r r':R2}(ho:OpR X (compareOp op) r)(ho':OpR X (compareOp op') r')(ha:PE X a ta)(hb:PE X b tb)(hc:PE X c tc)
 (hm:lastMarks [op,op'] [b,c]=false:=by with_unfolding_all rfl):PE X (.Compare a [op,op'] [b,c] pos) (Z2R r r' ta tb tc):=by
 intro pins s σ H Q I h;refine Compare_chain (thn (ha pins s σ H _ I h) λv s1 ⟨x,H1,I1,r1,q1⟩=>chain_link (thn (hb pins s1 σ H1 _ I1 q1) λu s2 ⟨y,H2,I2,r2,q2⟩=>
  thn (ho pins s2 σ H2 x y v u _ I2 r1 r2 q2) λd s3 ⟨z,H3,I3,r3,k,e,q3⟩=>?_)) hm
 subst e;cases r3;refine wpAny_truthy_bool ?_;cases k with
 | false=>exact ite_ff ⟨.bl false,H3,I3,rfl,q3⟩
 | true=>exact ite_tt (chain_last (thn (hc pins s3 σ H3 _ I3 q3) λw' s4 ⟨z',H4,I4,r4,q4⟩=>ho' pins s4 σ H4 y z' u w' Q I4 r2 r4 q4))
theorem Z1Z {op op':CmpOp}{r r':R2}(ho:OpR X (compareOp op) r)(ho':OpR X (compareOp op') r')(ha:PE X a ta)(hb:PE X b tb)(hc:PE X c tc)
 (hm:lastMarks [op,op'] [b,c]=false:=by with_unfolding_all rfl):PT X (.Compare a [op,op'] [b,c] pos) (Z1S (Z2R r r' ta tb tc)):=by
 intro pins s σ H Q I h;refine isTrue_chain (thn (ha pins s σ H _ I h) λv s1 ⟨x,H1,I1,r1,q1⟩=>test_link (thn (hb pins s1 σ H1 _ I1 q1) λu s2 ⟨y,H2,I2,r2,q2⟩=>
  thn (ho pins s2 σ H2 x y v u _ I2 r1 r2 q2) λd s3 ⟨z,H3,I3,r3,k,e,q3⟩=>?_)) hm
 subst e;cases r3;refine wpAny_truthy_bool ?_;cases k with
 | false=>
   obtain⟨k',e',q'⟩:=q3;cases e';exact ite_ff ⟨H3,I3,q'⟩
 | true=>
   refine ite_tt (test_last (thn (hc pins s3 σ H3 _ I3 q3) λw' s4 ⟨z',H4,I4,r4,q4⟩=>thn (ho' pins s4 σ H4 y z' u w' _ I4 r2 r4 q4) λd' s5 zq=>?_));obtain⟨z2,H5,I5,r5,k2,e2,q5⟩:=zq;subst e2;cases r5;exact wpAny_truthy_bool ⟨H5,I5,q5⟩
noncomputable def Z7E (K:W.Frag)(x:V)(H:Hp)(k:Bool):Prop:=
 match x with
 | .non=>k=false
 | .bl b=>k=b
 | .int i=>k=(i != 0)
 | .str y=>y.length≤sizeLine∧k=((y.length:Int) != 0)
 | .byt y=>y.size≤sizeLine∧k=((y.size:Int) != 0)
 | .ref p=>(∃ xs,SqL K H p xs∧k = !xs.isEmpty)∨(∃ xs,SqT K H p xs∧k = !xs.isEmpty)∨∃ kvs,H p=some (.dK kvs)∧k = !kvs.isEmpty
 | _=>False
theorem Z3P {κ:Type}{kvs:List (κ×V)}{vs:List (κ×Value)}(r:KV kvs vs):(!vs.isEmpty) = !kvs.isEmpty:=by
 cases r<;>rfl
theorem Z0S {xs:List V}{its:List Value}(r:Vals xs its):(!its.toArray.isEmpty) = !xs.isEmpty:=by
 cases r<;>simp
theorem XO:(sizeLine:Nat) < 2 ^ 63:=by rw[sizeLine_eq];decide
theorem Z7q:Z8k X (λx H Q=>∃ k,Z7E X.K x H k∧Q k H):=by
 intro pins s σ H x v Q I rx h;obtain⟨k,e,q⟩:=h;have hl:=XO;have hs:sizeLine=16777216:=sizeLine_eq;cases x with
 | non=>
   cases rx;have e':k=false:=e;subst e';exact truthy_none ⟨H,I,q⟩
 | bl b=>
   cases rx;have e':k=b:=e;subst e';exact wpAny_truthy_bool ⟨H,I,q⟩
 | int i=>
   obtain⟨t,rfl⟩:=rx;have e':k=(i != 0):=e;subst e';exact PySem.P.truthy_int ⟨H,I,q⟩
 | str y=>
   obtain⟨t,rfl⟩:=rx;obtain⟨hy,e'⟩:y.length≤sizeLine∧k=((y.length:Int) != 0):=e;subst e';exact PySem.P.truthy_str (by omega) ⟨H,I.tok _,q⟩
 | byt y=>
   obtain⟨t,rfl⟩:=rx;obtain⟨hy,e'⟩:y.size≤sizeLine∧k=((y.size:Int) != 0):=e;subst e';exact W.truthy_bytes (by omega) ⟨H,I.tok _,q⟩
 | ref p=>
   cases rx;have e':(∃ xs,SqL X.K H p xs∧k = !xs.isEmpty)∨(∃ xs,SqT X.K H p xs∧k = !xs.isEmpty)∨∃ kvs,H p=some (.dK kvs)∧k = !kvs.isEmpty:=e
   rcases e' with⟨xs,hx,e'⟩|⟨xs,hx,e'⟩|⟨kvs,hx,e'⟩
   ·subst e';obtain⟨its,r,pl,hz⟩:=I.list hx;have hlen:=r.length;exact wpAny_truthy_list pl.isList (by simp only[List.size_toArray];omega) ⟨H,I.tok _,by rw[Z0S r];exact q⟩
   ·subst e';obtain⟨its,r,pl,hz⟩:=I.tuple hx;have hlen:=r.length;exact truthy_tuple pl (by simp only[List.size_toArray];omega) ⟨H,I.tok _,by rw[Z0S r];exact q⟩
   ·subst e';obtain⟨hz,hS,vs,r,m⟩:kvs.length≤sizeLine∧(p == sysModules)=false∧∃ vs,KV kvs vs∧s.heap.DictOf (Zv X.prog X.w) p vs:=I.hok p _ hx;have hlen:kvs.length=vs.length:=Paired.length r;exact wpAny_truthy_dict hS m (by omega) ⟨H,I.tok _,by rw[Z3P r];exact q⟩
 | _=>exact (show False from e).elim
theorem Z0d (ha:PE X a ta)(he:∀ whole,isTrue a X.env whole=(do let v←whole;standAt a.pos;holding [v] (truthy v))) :
 PT X a (λσ H Q=>ta σ H λx H'=>∃ k,Z7E X.K x H' k∧Q k H'):=by
 intro pins s σ H Q I h;exact isTrue_plain (thn (ha pins s σ H _ I h) λv s1 ⟨x,H1,I1,r1,q1⟩=>Z7q pins s1 σ H1 x v Q I1 r1 q1) (he _)
theorem Jn:OpR X (binaryOp .Add) (λx y H Q=>∃ i j,x=.str i∧y=.str j∧i.length + j.length≤sizeLine∧Q (.str (i++j)) H):=by
 intro pins s σ H x y v u Q I rx ry h;obtain⟨i,j,rfl,rfl,hz,q⟩:=h;obtain⟨t,rfl⟩:=rx;obtain⟨t',rfl⟩:=ry;exact add_str (λt' tk=>⟨.str (i++j),H,I.tok _,⟨_,rfl⟩,q⟩) hz
theorem Xc {x:V}{us:List Value}(r:Vals [x] us):∃ u,us=[u]∧RelV x u:=by
 cases r with
 | cons r1 r2=>cases r2;exact⟨_,rfl,r1⟩
theorem Z86 {x y:V}{us:List Value}(r:Vals [x,y] us):∃ u w',us=[u,w']∧RelV x u∧RelV y w':=by
 cases r with
 | cons r1 r2=>
   cases r2 with
   | cons r3 r4=>cases r4;exact⟨_,_,rfl,r1,r3⟩
theorem Z4z (hc:X.calm=true):YK X (.builtin "max") (λxs H Q=>∃ i j,xs=[.int i,.int j]∧Q (.int (if j > i then j else i)) H):=by
 intro pins s σ H xs us Q I r h;obtain⟨i,j,rfl,q⟩:=h;obtain⟨u,w',rfl,⟨t,rfl⟩,⟨t',rfl⟩⟩:=Z86 r;refine max_two_ints (I.ok.hd hc) λh' tk k=>⟨_,H,I.kept k,?_,q⟩
 by_cases hj:j > i
 ·rw[if_pos hj,if_pos hj];exact⟨_,rfl⟩
 ·rw[if_neg hj,if_neg hj];exact⟨_,rfl⟩
theorem Z4B:YK X (.type "int") (λxs H Q=>(∃ i,xs=[.int i]∧Q (.int i) H)∨∃ k,xs=[.bl k]∧Q (.int (if k then 1 else 0)) H):=by
 intro pins s σ H xs us Q I r h
 rcases h with⟨i,rfl,q⟩|⟨k,rfl,q⟩
 ·obtain⟨u,rfl,t,rfl⟩:=Xc r;exact call_int_int ⟨.int i,H,I,⟨_,rfl⟩,q⟩
 ·obtain⟨u,rfl,r1⟩:=Xc r;cases r1;exact call_int_bool ⟨.int (if k then 1 else 0),H,I.tok _,⟨_,rfl⟩,q⟩
end
structure ObjM (h:Heap)(x dx C:Addr)(mA:Str→Option Value):Prop where
 obj:h.get? x=some (W.instObj C dx)
 ns:h.Ns1 dx mA
 ne:dx≠x
theorem Z55 {h:Heap}{dx:Addr}{mA:Str→Option Value}(n:h.Ns1 dx mA):∃ od,h.get? dx=some od∧∀ name,W.lookIn name od=some (mA name):=by
 obtain⟨o,es,ep,ho,hd,hk,_,hm⟩:=n;refine⟨o,ho,λname=>?_⟩;have e:=hm name;unfold nsFind findBy at e;rw[←Array.find?_toList] at e;unfold W.lookIn;rw[hd];dsimp only
 split
 ·rename_i y q;rw[q] at e;exact congrArg some e
 ·rename_i q;rw[q] at e;have a:es.toList.any (·.refKey)=false:=by
   rw[List.any_eq_false];intro y hy;obtain⟨z,t,hkey⟩:=hk y (Array.mem_toList_iff.mp hy);simp[DictEntry.refKey,hkey]
  have a':¬ es.toList.any (·.refKey)=true:=by rw[a];exact Bool.false_ne_true
  rw[if_neg a'];exact congrArg some e
theorem ObjM.look {h:Heap}{x dx C:Addr}{mA:Str→Option Value}(I:ObjM h x dx C mA):∃ od,W.InstAt h x (W.instObj C dx) C (some od)∧∀ name,W.lookIn name od=some (mA name):=
 let ⟨od,ho,hl⟩:=Z55 I.ns
 ⟨od,⟨I.obj,rfl,rfl,ho⟩,hl⟩
section
variable {prog:Program}{w:World}{A:Around}{E:Value→Shared→Prop}{s:Shared}{K:W.Frag}{x dx C f:Addr}{mA:Str→Option Value}{name:Str}{v:Value}
theorem Z6P {expr:Bool}{Q:Value→Shared→Prop}(X:K.In s.heap)(I:ObjM s.heap x dx C mA)(hg:W.plainGet K C name=true)(hh:W.hasDictIn K C=true)
 (ha:W.findIn K (.ref C) name=some none) (hv:mA name=some v) (hv':W.handedIn v=true) (h:Q v { s with toks:=s.toks + 1 }) :
 wpAny (model prog w) A (getAttr (.ref x) name expr) Q E s:=by
 obtain⟨od,J,hl⟩:=I.look;exact W.get_value X J (W.plainGet_of hg).1 (W.findObj_own hh ha rfl (by rw[hl,hv])) hv' h
theorem Z6b {pl:Sem Bool}{Q:Value×List Value→Shared→Prop}(X:K.In s.heap)(I:ObjM s.heap x dx C mA)(hg:W.plainGet K C name=true)
 (hf:W.findIn K (.ref C) name=some (some (.ref f))) (ht:W.isFn K (.ref f)=true) (hv:mA name=none) (h:Q (.ref f,[.ref x]) s) :
 wpAny (model prog w) A (getMethod (.ref x) name pl) Q E s:=by
 obtain⟨od,J,hl⟩:=I.look;exact W.method_fn X J (W.plainGet_of hg).1 (W.plainGet_of hg).2 hf (beq_iff_eq.mp ht) (by show (W.lookIn name od).map (·.isSome)=some false;rw[hl,hv];rfl) h
theorem Z6H {ns:List Str}{Q:Unit→Shared→Prop}(X:K.In s.heap)(I:ObjM s.heap x dx C mA)
 (hs:W.findIn K (.ref C) "__setattr__" = some (some (.builtin "object.__setattr__"))) (hp:W.plainOver K C=true) (ht:W.takerIn K C name=some none) (hh:W.hasDictIn K C=true)
 (hw:PySem.Within mA ns) (hsz:ns.length≤sizeLine)
 (h:∀ h',ObjM h' x dx C (λy=>if y=name then some v else mA y)→Heap.SameBut dx s.heap h'→Q () { s with heap:=h',toks:=s.toks + 2 }) :
 wpAny (model prog w) A (setAttr (.ref x) name v) Q E s:=by
 obtain⟨od,J,hl⟩:=I.look;refine W.set_plain X J hs (W.osa_open (s:={ s with toks:=s.toks + 1 }) (r:=none) X J hp ht λb=>?_);obtain⟨cd,hc,hd'⟩:=W.any_some hh;have hx:s.heap.get? x=some ⟨.ref C,some dx,.plain,#[]⟩:=I.obj;refine wpAny_bind (wpAny_pure (wpAny_bind (wpAny_bind (wpAny_loadPart hx (wpAny_bind (W.Looks.here (s:={ s with toks:=s.toks + 1 }) (W.looks_clsIn X hc) ?_))))));rw[hd'];refine wpAny_pure (a:=some dx) (wpAny_bind (wpAny_pure (wpAny_bind ?_)));refine wpAny_nsSet1 (s:={ s with toks:=s.toks + 1 }) I.ns λh' hn2 hs2=>?_;obtain⟨oD,esD,epD,hoD,hdD,hcD⟩:=hn2.count (PySem.Within.cons name v hw);refine wpAny_bind (wpAny_lookBehind hoD (by rw[hdD];exact pastItsLine_dict (Nat.le_trans hcD (by rw[List.length_cons];omega))) ?_);exact wpAny_pure (h _ ⟨(hs2.2 _ (Ne.symm I.ne)).trans I.obj,hn2,I.ne⟩ hs2)
theorem Z65 {R:Result→Shared→Prop}{vs:List Value}{kw:List (Str×Value)}(X:K.In s.heap)(hm:W.makesIn K C=true)
 (hi:W.findIn K (.ref C) "__init__" = some (some (.ref f))) (hf:W.typeIn K (.ref f)=some (.type "function"))
 (h:codeAny (model prog w) (A.under (.builtin "type.__call__" ⟨.ref C::vs,kw⟩)) (.call (.ref f) ⟨.ref (s.heap.objs.size + 1)::vs,kw⟩) (W.InitBack (s.heap.objs.size + 1) R)
   { s with heap:=(s.heap.push W.emptyDict).push (W.instObj C s.heap.objs.size) }) :
 codeAny (model prog w) A (.call (.ref C) ⟨vs,kw⟩) R s:=by
 obtain⟨hh,g,d,t,os⟩:=s;exact W.make_core (W.makes_of X hm) (W.looks_findIn X hi) (λself=>W.bind_fn X self hf) (.inl rfl) h
end
noncomputable def ZK (f:Str)(v:V):List (Str×V)→List (Str×V)
 | []=>[(f,v)]
 | (g,x)::r=>if g=f then (g,v)::r else (g,x)::ZK f v r
theorem Z07 (f g:Str)(v:V):∀ fs:List (Str×V),(ZK f v fs).lookup g=if g=f then some v else fs.lookup g
 | []=>by
   show List.lookup g [(f,v)]=_
   by_cases h:g=f
   ·have hb:(g == f)=true:=beq_iff_eq.mpr h;simp only[List.lookup,hb,if_pos h]
   ·have hb:(g == f)=false:=beq_eq_false_iff_ne.mpr h;simp only[List.lookup,hb,if_neg h]
 | (k,x)::r=>by
   have ih:=Z07 f g v r;rw[show ZK f v ((k,x)::r)=(if k=f then (k,v)::r else (k,x)::ZK f v r) from rfl]
   by_cases hk:k=f
   ·rw[if_pos hk]
    by_cases h:g=k
    ·have hb:(g == k)=true:=beq_iff_eq.mpr h;simp only[List.lookup,hb,if_pos (h.trans hk)]
    ·have hb:(g == k)=false:=beq_eq_false_iff_ne.mpr h;simp only[List.lookup,hb,if_neg (λe:g=f=>h (e.trans hk.symm))]
   ·rw[if_neg hk]
    by_cases h:g=k
    ·have hb:(g == k)=true:=beq_iff_eq.mpr h;simp only[List.lookup,hb,if_neg (λe:g=f=>hk (h.symm.trans e))]
    ·have hb:(g == k)=false:=beq_eq_false_iff_ne.mpr h;simp only[List.lookup,hb];exact ih
theorem JE (f:Str)(v:V):∀ fs:List (Str×V),f∈(ZK f v fs).map (·.1)∧∀ g,g∈fs.map (·.1)→g∈(ZK f v fs).map (·.1)
 | []=>⟨by simp[ZK],λg h=>by simp at h⟩
 | (k,x)::r=>by
   obtain⟨i1,i2⟩:=JE f v r;rw[show ZK f v ((k,x)::r)=(if k=f then (k,v)::r else (k,x)::ZK f v r) from rfl]
   by_cases hk:k=f
   ·rw[if_pos hk];subst hk;exact⟨by simp,λg h=>by simpa using h⟩
   ·rw[if_neg hk];refine⟨?_,λg h=>?_⟩
    ·rw[List.map_cons];exact List.mem_cons_of_mem _ i1
    ·rw[List.map_cons] at h ⊢
     rcases List.mem_cons.mp h with e|e
     ·exact List.mem_cons.mpr (.inl e)
     ·exact List.mem_cons_of_mem _ (i2 g e)
theorem Z0a (f:Str)(v:V):∀ fs:List (Str×V),(ZK f v fs).length≤fs.length + 1
 | []=>by simp[ZK]
 | (k,x)::r=>by
   have ih:=Z0a f v r;rw[show ZK f v ((k,x)::r)=(if k=f then (k,v)::r else (k,x)::ZK f v r) from rfl]
   by_cases hk:k=f
   ·rw[if_pos hk,List.length_cons,List.length_cons];omega
   ·rw[if_neg hk,List.length_cons,List.length_cons];omega
theorem RelO.some_of {v:V}{o:Option Value}(r:RelO (some v) o):∃ u,o=some u∧RelV v u:=by
 cases o with
 | none=>exact (show False from r).elim
 | some u=>exact⟨u,rfl,r⟩
theorem RelO.none_of {o:Option Value}(r:RelO none o):o=none:=by
 cases o with
 | none=>rfl
 | some u=>exact (show False from r).elim
theorem Z4n {v:V}{u:Value}(r:RelV v u):W.handedIn u=true:=by
 cases v with
 | non=>cases (show u=Value.none from r);rfl
 | bl b=>cases (show u=Value.bool b from r);rfl
 | int i=>obtain⟨t,e⟩:=(show ∃ t,u=Value.int i t from r);cases e;rfl
 | str x=>obtain⟨t,e⟩:=(show ∃ t,u=Value.str x t from r);cases e;rfl
 | byt b=>obtain⟨t,e⟩:=(show ∃ t,u=Value.bytes b t from r);cases e;rfl
 | flt b=>obtain⟨t,e⟩:=(show ∃ t,u=Value.float b t from r);cases e;rfl
 | ref a=>cases (show u=Value.ref a from r);rfl
 | ty n=>cases (show u=Value.type n from r);rfl
section
variable {P:Program}{w:World}{H H':Hp}{h h':Heap}{a C dx:Addr}{fs fs':List (Str×V)}
theorem Z1a (hok:HOk P w H h)(e:H a=some (.ins C dx fs)):∃ mA,ObjM h a dx C mA∧(∀ f,RelO (fs.lookup f) (mA f))∧PySem.Within mA (fs.map (·.1))∧fs.length≤1000∧H dx=some (.own a):=by
 obtain⟨d,z,ne,ob,mA,n,r,q⟩:=(show ObjOk P w H h a (.ins C dx fs) from hok a _ e);exact⟨mA,⟨ob,n,ne⟩,r,q,z,d⟩
end
structure Cls (K:W.Frag)(C:Addr):Prop where
 pg:W.plainGet K C Str.empty=true
 hd:W.hasDictIn K C=true
 po:W.plainOver K C=true
 sa:W.findIn K (.ref C) "__setattr__" = some (some (.builtin "object.__setattr__"))
theorem Cls.get {K:W.Frag}{C:Addr}(c:Cls K C)(f:Str):W.plainGet K C f=true:=c.pg
noncomputable def NoAttr (K:W.Frag)(C:Addr)(f:Str):Prop:=W.findIn K (.ref C) f=some none
theorem NoAttr.taker {K:W.Frag}{C:Addr}{f:Str}(n:NoAttr K C f):W.takerIn K C f=some none:=by
 unfold W.takerIn;rw[show W.findIn K (.ref C) f=some none from n];rfl
structure Meth (K:W.Frag)(C:Addr)(m:Str)(f:Addr):Prop where
 at_:W.findIn K (.ref C) m=some (some (.ref f))
 fn:W.isFn K (.ref f)=true
 kp:W.keepIn K (.ref f)=true
section
variable {X:Cx}{pins:List (Addr×Obj)}{σ:St}{H:Hp}{s:Shared}{a C dx:Addr}{fs:List (Str×V)}{f:Str}{v:V}{A:Around}{E:Value→Shared→Prop}
theorem Z3H {b:Bool}{Q:Value→Shared→Prop}(I:Inv X pins σ H s)(e:H a=some (.ins C dx fs))(c:Cls X.K C)(n:NoAttr X.K C f)(l:fs.lookup f=some v)
 (h:∀ u s',Inv X pins σ H s'→RelV v u→Q u s'):wpAny (model X.prog X.w) A (getAttr (.ref a) f b) Q E s:=by
 obtain⟨mA,O,r,_,_,_⟩:=Z1a I.hok e;obtain⟨u,hu,ru⟩:=RelO.some_of (v:=v) (o:=mA f) (by rw[←l];exact r f);exact Z6P I.kIn O (c.get f) c.hd n hu (Z4n ru) (h u _ (I.tok _) ru)
theorem Jw {m:Str}{g:Addr}{pl:Sem Bool}{Q:Value×List Value→Shared→Prop}(I:Inv X pins σ H s)(e:H a=some (.ins C dx fs))(c:Cls X.K C)(k:Meth X.K C m g)(l:fs.lookup m=none)
 (h:Q (.ref g,[.ref a]) s):wpAny (model X.prog X.w) A (getMethod (.ref a) m pl) Q E s:=by
 obtain⟨mA,O,r,_,_,_⟩:=Z1a I.hok e;have hn:mA m=none:=RelO.none_of (by rw[←l];exact r m);exact Z6b I.kIn O (c.get m) k.at_ k.fn hn h
theorem Z3Q {y:V}{u:Value}{Q:Unit→Shared→Prop}(I:Inv X pins σ H s)(e:H a=some (.ins C dx fs))(c:Cls X.K C)(n:NoAttr X.K C f)(hl:fs.length < 1000)(ry:RelV y u)
 (h:∀ s',Inv X pins σ (upd H a (.ins C dx (ZK f y fs))) s'→Q () s'):wpAny (model X.prog X.w) A (setAttr (.ref a) f u) Q E s:=by
 obtain⟨mA,O,r,wi,_,ho⟩:=Z1a I.hok e;have hz:(fs.map (·.1)).length≤sizeLine:=by rw[List.length_map,sizeLine_eq];omega
 refine Z6H I.kIn O c.sa c.po n.taker c.hd wi hz λh' O' sb=>h _ ?_;have hd:∃ o,h'.get? dx=some o:=let ⟨o,_,_,e',_⟩:=O'.ns;⟨o,e'⟩
 refine I.write (x:=a) (e:=dx) (by rw[e];exact True.intro) (.inr ho) (λb q hb z=>(sb.2 b hb).trans z) hd ?_;refine⟨by rw[Z2 O.ne];exact ho,?_,O.ne,O'.obj,_,O'.ns,λg=>?_,λg hg=>?_⟩
 ·have:=Z0a f y fs;omega
 ·show RelO ((ZK f y fs).lookup g) (if g=f then some u else mA g);rw[Z07]
  by_cases q:g=f
  ·rw[if_pos q,if_pos q];exact ry
  ·rw[if_neg q,if_neg q];exact r g
 ·by_cases q:g=f
  ·rw[q];exact (JE f y fs).1
  ·refine (JE f y fs).2 g (wi g λz=>hg ?_);show (if g=f then some u else mA g)=none;rw[if_neg q];exact z
theorem Inv.made (I:Inv X pins σ H s):Inv X pins σ (upd (upd H s.heap.objs.size (.own (s.heap.objs.size + 1))) (s.heap.objs.size + 1) (.ins C s.heap.objs.size []))
 { s with heap:=(s.heap.push W.emptyDict).push (W.instObj C s.heap.objs.size) }:=by
 have e1:(s.heap.push W.emptyDict).get? s.heap.objs.size=some W.emptyDict:=Heap.get?_push_size s.heap rfl;have e2:((s.heap.push W.emptyDict).push (W.instObj C s.heap.objs.size)).get? (s.heap.objs.size + 1)=some (W.instObj C s.heap.objs.size):=by
  have:=Heap.get?_push_size (s.heap.push W.emptyDict) (o:=W.instObj C s.heap.objs.size) rfl
  rwa [Heap.size_push] at this
 have e3:(s.heap.push W.emptyDict).Ns s.heap.objs.size (λ_=>none):=⟨W.emptyDict,#[],_,e1,rfl,(λe he=>absurd he (by simp)),λ_=>rfl⟩;have I1:=I.laid (a:=s.heap.objs.size) (o:=.own (s.heap.objs.size + 1)) (h':=s.heap.push W.emptyDict) (t':=s.toks) (λb u q=>Heap.get?_push_of_some _ q) (Nat.le_refl _) ⟨_,e1⟩;refine I1.laid (a:=s.heap.objs.size + 1) (o:=.ins C s.heap.objs.size []) (t':=s.toks) (λb u q=>Heap.get?_push_of_some _ q) (Nat.le_of_eq (Heap.size_push _ _)) ?_;have ne:s.heap.objs.size≠s.heap.objs.size + 1:=Nat.ne_of_lt (Nat.lt_succ_self _);refine⟨by rw[Z2 ne,Z1],Nat.zero_le _,ne,e2,λ_=>none,(Heap.Ns1.of_empty e3).at λo q=>Heap.get?_push_of_some _ q,λ_=>True.intro,λy hy=>absurd rfl hy⟩
theorem Z7b {prog:Program}{w:World}{env:Env}{e:Expr}{f:Str}{pos:Pos}{s:Shared}{Q:Value→Shared→Prop}(hb:attributeBase e f env (eval e env)=eval e env)
 (h:wpAny (model prog w) A (eval e env) (λo s₁=>wpAny (model prog w) A (getAttr o f true) Q E s₁) E s):wpAny (model prog w) A (eval (.Attribute e f pos) env) Q E s:=
 Attribute_any_ h (by rw[arm_eval_Attribute,hb])
end
noncomputable def Z5y (K:W.Frag)(ta:TE)(f:Str):TE:=λσ H Q=>ta σ H λx H1=>∃ a C dx fs v,x=.ref a∧H1 a=some (.ins C dx fs)∧Cls K C∧NoAttr K C f∧fs.lookup f=some v∧Q v H1
noncomputable def Z7w (K:W.Frag)(ta tv:TE)(f:Str):TS:=λD σ H=>tv σ H λy H1=>ta σ H1 λx H2=>∃ a C dx fs,x=.ref a∧H2 a=some (.ins C dx fs)∧Cls K C∧NoAttr K C f∧fs.length < 1000∧
 D.nx σ (upd H2 a (.ins C dx (ZK f y fs)))
section
variable {X:Cx}{o e value:Expr}{f:Str}{pos pos' tpos:Pos}{ta tv:TE}
theorem Zd (he:PE X e ta)(hb:attributeBase e f X.env (eval e X.env)=eval e X.env):PE X (.Attribute e f pos) (Z5y X.K ta f):=by
 intro pins s σ H Q I h;refine Z7b hb (thn (he pins s σ H _ I h) λu s1 zq=>?_);obtain⟨x,H1,I1,rx,a,C,dx,fs,v,ex,ea,c,n,l,q⟩:=zq;subst ex;obtain rfl:u=Value.ref a:=rx;exact Z3H I1 ea c n l λu' s2 I2 ru=>⟨v,H1,I2,ru,q⟩
theorem ZI (ha:PE X o ta)(hv:PE X value tv)(hs:swapsWith value (some (.Attribute o f pos')) pos.line X.env=pure false):PS X (.Assign [.Attribute o f pos'] value pos) (Z7w X.K ta tv f):=by
 intro pins s σ H D I h;refine plainObj_wpAny_Assign_Attribute (thn (hv pins s σ H _ I h) λu s1 ⟨y,H1,I1,ry,q⟩=>thn (ha pins s1 σ H1 _ I1 q) λov s2 zq=>?_) hs;obtain⟨x,H2,I2,rx,a,C,dx,fs,ex,ea,c,n,l,q2⟩:=zq;subst ex;obtain rfl:ov=Value.ref a:=rx;exact Z3Q I2 ea c n l ry λs3 I3=>⟨σ,_,I3,q2⟩
end
section
variable {X:Cx}{pins:List (Addr×Obj)}{σ:St}{H:Hp}{s:Shared}{A:Around}{E:Value→Shared→Prop}{Q:Value→Shared→Prop}{c:Value}{b:Bool}
end
structure Room (k:Nat)(A:Around):Prop where
 hd:A.handled=none
 dp:A.depth + 3 * k + 5 < recursionLimit
 un:A.units + 16 * k + 200 < cLine
theorem Room.mono {j k:Nat}{A:Around}(r:Room k A)(h:j≤k):Room j A:=⟨r.hd,by have:=r.dp;omega,by have:=r.un;omega⟩
theorem Room.deeper {k:Nat}{A:Around}(r:Room (k + 1) A)(env:Env):Room k (A.deeper env):=
 ⟨r.hd,by have:=r.dp;show A.depth + 1 + 3 * k + 5 < _;omega,by have:=r.un;show A.units + 3 + 16 * k + 200 < _;omega⟩
theorem Room.in1 {k:Nat}{A:Around}(r:Room (k + 1) A):Room k A.in1:=
 ⟨r.hd,by have:=r.dp;show A.depth + 3 * k + 5 < _;omega,by have:=r.un;show A.units + 1 + 16 * k + 200 < _;omega⟩
theorem Z4b {A:Around}{C:Addr}{us:List Value}{kw:List (Str×Value)}:(A.under (.builtin "type.__call__" ⟨.ref C::us,kw⟩)).depth=A.depth + 1:=by
 first|rfl|simp[Around.under,Code.weight,Code.isCreation,Code.isGuard,Code.isCaller,Code.frames,Code.isFrame,guardIds]
theorem Z3F {A:Around}{C:Addr}{us:List Value}{kw:List (Str×Value)}:(A.under (.builtin "type.__call__" ⟨.ref C::us,kw⟩)).units=A.units + 1:=by
 first|rfl|simp[Around.under,Code.cUnits,Code.frames,Code.isFrame]
theorem Room.make {k:Nat}{A:Around}(r:Room (k + 1) A)(C:Addr)(us:List Value)(kw:List (Str×Value)):Room k (A.under (.builtin "type.__call__" ⟨.ref C::us,kw⟩)):=
 ⟨r.hd,by have:=r.dp;rw[Z4b];omega,by have:=r.un;rw[Z3F];omega⟩
theorem Room.depth {k:Nat}{A:Around}(r:Room k A):A.depth < recursionLimit:=by have:=r.dp;omega
noncomputable def JN:TA:=λ_ H Q=>Q [] H
noncomputable def Z6p (ta:TE)(tr:TA):TA:=λσ H Q=>ta σ H λx H1=>tr σ H1 λxs H2=>Q (x::xs) H2
section
variable {X:Cx}{e:Expr}{es:List Expr}{te:TE}{t:TA}{pos:Pos}
theorem Z4:PA X [] JN:=λ_ _ _ _ H Q I h=>Calls.spliced_nil ⟨[],H,I,.nil,h⟩
theorem Z0 (ha:PE X e te)(hr:PA X es t)(hs:starEach (e::es) X.env=(false,eval e X.env)::starEach es X.env:=by rfl):PA X (e::es) (Z6p te t):=by
 intro pos pins s σ H Q I h;rw[hs];show wpAny _ _ (spliced ((false,eval e X.env)::backTo pos (starEach es X.env))) _ _ s;refine Calls.spliced_cons (thn (ha pins s σ H _ I h) λu s1 zq=>?_);obtain⟨x,H1,I1,r1,q1⟩:=zq;exact thn (hr pos pins s1 σ H1 _ I1 q1) λus s2 ⟨xs,H2,I2,r2,q2⟩=>⟨x::xs,H2,I2,.cons r1 r2,q2⟩
noncomputable def Z7B (t:TA):TE:=λσ H Q=>t σ H λxs H1=>xs.length≤sizeLine∧∀ p,H1 p=none→Q (.ref p) (upd H1 p (.tup xs))
noncomputable def Z7o (t:TA):TE:=λσ H Q=>t σ H λxs H1=>xs.length≤sizeLine∧∀ p,H1 p=none→Q (.ref p) (upd H1 p (.lst xs))
theorem YN {x1}(h:PA X es t):PE X (.Tuple es x1 pos) (Z7B t):=by
 intro pins s σ H Q I hq;refine wpAny_Tuple_spliced (thn (h pos pins s σ H _ I hq) λus s1 ⟨xs,H1,I1,r,z,q⟩=>⟨by rw[←r.length];exact z,?_⟩);have hf:H1 s1.heap.objs.size=none:=I1.hok.fresh (Nat.le_refl _);refine⟨.ref s1.heap.objs.size,upd H1 s1.heap.objs.size (.tup xs),I1.laid (t':=s1.toks) (λb u e=>Heap.get?_push_of_some _ e) (Nat.le_refl _) ?_,rfl,q _ hf⟩;exact⟨z,us,r,⟨_,Heap.get?_push_size _ rfl,rfl,_,rfl⟩⟩
theorem Y0 (h:PA X es t):PE X (.List es pos) (Z7o t):=by
 intro pins s σ H Q I hq;refine wpAny_List_spliced (thn (h pos pins s σ H _ I hq) λus s1 ⟨xs,H1,I1,r,z,q⟩=>⟨by rw[←r.length];exact z,?_⟩);have hf:H1 s1.heap.objs.size=none:=I1.hok.fresh (Nat.le_refl _);refine⟨.ref s1.heap.objs.size,upd H1 s1.heap.objs.size (.lst xs),I1.laid (t':=s1.toks) (λb u e=>Heap.get?_push_of_some _ e) (Nat.le_refl _) ?_,rfl,q _ hf⟩;exact⟨z,us,0,r,Heap.get?_push_size _ rfl⟩
end
noncomputable abbrev Sp:=List V→Hp→VK→XK→Prop
noncomputable abbrev CXT:=List Env→Hp→Shared→XK→Value→Shared→Prop
structure Env0 (P:Program)(w:World)(K:W.Frag)(mg:Str→Option Value)(base:Heap)(A:Around)(outer:List Env)(s:Shared)(H:Hp):Prop where
 frames:A.frames=some outer
 mod:Mod K mg base
 bs:∀ b o,base.get? b=some o→s.heap.get? b=some o∧H b=none
 bsz:base.objs.size≤s.heap.objs.size
 funs:s.heap.FunFrames base outer
 frf:∀ b∈frs outer,H b=none
 hok:HOk P w H s.heap
 bare:AllBare s.gens
noncomputable def CE (outer:List Env)(P:Program)(w:World)(H:Hp)(s:Shared)(Q:VK)(u:Value)(s':Shared):Prop:=
 ∃ v H',s'.os=s.os∧AllBare s'.gens∧Un (frs outer) [] H H' s.heap s'.heap∧HOk P w H' s'.heap∧RelV v u∧Q v H'
noncomputable def CR (CX:CXT)(outer:List Env)(P:Program)(w:World)(H:Hp)(s:Shared)(Q:VK)(E:XK)(r:Result)(s':Shared):Prop:=
 match r with
 | .ok (.ret u)=>CE outer P w H s Q u s'
 | .ok _=>False
 | .error e=>CX outer H s E e s'
structure FnOk (P:Program)(w:World)(K:W.Frag)(mg:Str→Option Value)(base:Heap)(CX:CXT)(k:Nat)(f:Addr)(fd:FuncData)(ps:List Str)(sp:Sp):Prop where
 len:∀ vs H Q E,sp vs H Q E→vs.length=ps.length
 run:∀ (A:Around) (outer:List Env) (s:Shared) (H:Hp) (args:Args) (us:List Value) (vs:List V) (Q:VK) (E:XK),Room k A→Env0 P w K mg base A outer s H→BindsTo s fd args (ps.zip us)→Vals vs us→sp vs H Q E→
  codeAny (model P w) A (.call (.ref f) args) (CR CX outer P w H s Q E) s
theorem Env0.make {P:Program}{w:World}{K:W.Frag}{mg:Str→Option Value}{base:Heap}{A:Around}{outer:List Env}{s:Shared}{H:Hp}(e:Env0 P w K mg base A outer s H)(C:Addr)(us:List Value)(kw:List (Str×Value)) :
 Env0 P w K mg base (A.under (.builtin "type.__call__" ⟨.ref C::us,kw⟩)) outer s H:=⟨by first|exact e.frames|(simpa [Around.under,Code.envs,Code.isFrame,pushEnvs] using e.frames),e.mod,e.bs,e.bsz,e.funs,e.frf,e.hok,e.bare⟩
theorem Env0.in1 {P:Program}{w:World}{K:W.Frag}{mg:Str→Option Value}{base:Heap}{A:Around}{outer:List Env}{s:Shared}{H:Hp}(e:Env0 P w K mg base A outer s H) :
 Env0 P w K mg base A.in1 outer s H:=⟨e.frames,e.mod,e.bs,e.bsz,e.funs,e.frf,e.hok,e.bare⟩
section
variable {X:Cx}{pins:List (Addr×Obj)}{σ:St}{H:Hp}{s s':Shared}
theorem Inv.env0 (I:Inv X pins σ H s):Env0 X.prog X.w X.K X.mg X.base X.A X.stack s H:=
 ⟨I.ok.frames,I.ok.mod,I.bs,Nat.le_trans I.ok.bsz I.sz,I.stack,I.stkFree,I.hok,I.bare⟩
theorem Inv.after {Q:VK}{u:Value}(I:Inv X pins σ H s)(h:CE X.stack X.prog X.w H s Q u s'):EP X pins σ Q u s':=by
 obtain⟨v,H',os,bare,un,hok,r,q⟩:=h;obtain⟨hh,g,d,t,os'⟩:=s';obtain rfl:os'=s.os:=os;exact⟨v,H',I.call (h':=hh) (g':=g) (d':=d) (t':=t) (ch:=[]) un hok bare (λb z=>absurd z (by simp)),r,q⟩
end
noncomputable def Z3Y (sp:Sp)(dvs:List V)(E:XK)(t:TA):TE:=λσ H Q=>t σ H λvs H1=>sp (vs++dvs) H1 Q E
noncomputable def Z44 (C:Addr)(m:Str)(sp:Sp)(dvs:List V)(E:XK)(ta:TE)(t:TA):TE:=λσ H Q=>ta σ H λx H1=>∃ a dx fs,x=.ref a∧H1 a=some (.ins C dx fs)∧fs.lookup m=none∧
 t σ H1 λvs H2=>sp (x::(vs++dvs)) H2 Q E
noncomputable def Z3J (C:Addr)(sp:Sp)(dvs:List V)(E:XK)(t:TA):TE:=λσ H Q=>t σ H λvs H1=>∀ x dx,H1 x=none→H1 dx=none→dx≠x→
 sp (.ref x::(vs++dvs)) (upd (upd H1 dx (.own x)) x (.ins C dx [])) (λv H2=>v=.non∧Q (.ref x) H2) E
noncomputable def Binds (K:W.Frag)(fd:FuncData)(ps:List Str)(ds:List Value):Prop:=
 ∀ (s:Shared) (us:List Value),K.In s.heap→(us++ds).length=ps.length→BindsTo s fd ⟨us,[]⟩ (ps.zip (us++ds))
theorem Binds.all {K:W.Frag}{fd:FuncData}{ps:List Str}(h:∀ us:List Value,us.length=ps.length→bindArgs fd ⟨us,[]⟩=pure (ps.zip us)):Binds K fd ps []:=λs us _ hl=>by
 rw[List.append_nil] at hl ⊢;exact .of_eq (h us hl)
noncomputable def X3 (CX:CXT)(X:Cx)(E:XK):Prop:=∀ (pins:List (Addr×Obj)) (σ:St) (H:Hp) (s:Shared) (e:Value) (s':Shared),Inv X pins σ H s→CX X.stack H s E e s'→X.xe e s'
section
variable {X:Cx}{CX:CXT}{k:Nat}{f C:Addr}{fd:FuncData}{ps:List Str}{sp:Sp}{dvs:List V}{ds:List Value}{E:XK}{x m:Str}{p pos apos:Pos}{e o:Expr}{es:List Expr}{ta:TE}{t:TA}
theorem JH {pins:List (Addr×Obj)}{σ:St}{H:Hp}{s:Shared}{Q:VK}{us:List Value}{vs:List V}(F:FnOk X.prog X.w X.K X.mg X.base CX k f fd ps sp)(hr:Room k X.A)(hb:Binds X.K fd ps ds)(hd:Vals dvs ds)(hx:X3 CX X E)
 (I:Inv X pins σ H s) (r:Vals vs us) (h:sp (vs++dvs) H Q E):wpAny (model X.prog X.w) X.A (call (.ref f) us) (EP X pins σ Q) X.xe s:=by
 have r2:Vals (vs++dvs) (us++ds):=r.append hd;have hl:(us++ds).length=ps.length:=by rw[←r2.length];exact F.len _ _ _ _ h
 refine wpAny_call (codeAny_mono (F.run X.A X.stack s H ⟨us,[]⟩ (us++ds) (vs++dvs) Q E hr I.env0 (hb s us I.kIn hl) r2 h) λr s' hq=>?_);cases r with
 | error e=>exact hx pins σ H s e s' I hq
 | ok fl=>
   cases fl with
   | ret u=>exact I.after hq
   | next=>exact False.elim hq
   | brk=>exact False.elim hq
   | cont=>exact False.elim hq
theorem Za (F:FnOk X.prog X.w X.K X.mg X.base CX k f fd ps sp)(hr:Room k X.A)(hg:Gl X x)(hm:X.mg x=some (.ref f))(hk:W.keepIn X.K (.ref f)=true)(hb:Binds X.K fd ps ds)(hd:Vals dvs ds)(hx:X3 CX X E)
 (ha:PA X (e::es) t) (hdb:(x == ("__debug__" : Str))=false:=by decide) (he:starEach (e::es) X.env=(false,eval e X.env)::starEach es X.env:=by rfl) (hpl:(backTo pos (starEach es X.env)).any (·.1)=false:=by rfl) :
 PE X (.Call (.Name x p) (e::es) [] pos) (Z3Y sp dvs E t):=by
 intro pins s σ H Q I h;refine wpAny_Call_Name_kw (YV I hg hm ?_ hdb);refine W.callWith_K (h₀:=X.base) I.ok.mod.kin hk (thn (ha pos pins s σ H _ I h) λus s1 ⟨vs,H1,I1,r,q⟩=>⟨I1.kIn,?_⟩) he hpl;exact JH F hr hb hd hx I1 r q
theorem Z5M (F:FnOk X.prog X.w X.K X.mg X.base CX k f fd ps sp)(hr:Room k X.A)(hg:Gl X x)(hm:X.mg x=some (.ref f))(hk:W.keepIn X.K (.ref f)=true)(hb:Binds X.K fd ps ds)(hd:Vals dvs ds)(hx:X3 CX X E)
 (hdb:(x == ("__debug__" : Str))=false:=by decide):PE X (.Call (.Name x p) [] [] pos) (Z3Y sp dvs E JN):=by
 intro pins s σ H Q I h;refine wpAny_Call_Name_kw (YV I hg hm ?_ hdb);exact W.callWith_K0 I.kIn hk (JH (us:=[]) F hr hb hd hx I .nil h)
theorem Zy {pl:Sem Bool}(he:PE X o ta)(c:Cls X.K C)(hm:Meth X.K C m f)(F:FnOk X.prog X.w X.K X.mg X.base CX k f fd ps sp)(hr:Room k X.A)(hb:Binds X.K fd ps ds)(hd:Vals dvs ds)(hx:X3 CX X E)(ha:PA X (e::es) t)
 (hst:starEach (e::es) X.env=(false,eval e X.env)::starEach es X.env:=by rfl) (hpl:(backTo pos (starEach es X.env)).any (·.1)=false:=by rfl)
 (ht:eval (.Call (.Attribute o m apos) (e::es) [] pos) X.env=(do
   let ov←eval o X.env
   standAt apos.atName
   let (f,first)←holding [ov] (getMethod ov m pl)
   callWith pos f first (backTo pos (starEach (e::es) X.env)) (backToKw pos (keywordEach [] X.env))):=by rfl) :
 PE X (.Call (.Attribute o m apos) (e::es) [] pos) (Z44 C m sp dvs E ta t):=by
 intro pins s σ H Q I h;refine W.methodCall_KW (pl:=pl) (thn (he pins s σ H _ I h) λu s1 zq=>?_) ht;obtain⟨x,H1,I1,rx,a,dx,fs,ex,ea,l,q⟩:=zq;subst ex;obtain rfl:u=Value.ref a:=rx;refine Jw I1 ea c hm l ?_;refine W.callWith_K (first:=[.ref a]) (h₀:=X.base) I.ok.mod.kin hm.kp (thn (ha pos pins s1 σ H1 _ I1 q) λus s2 ⟨vs,H2,I2,r,q2⟩=>⟨I2.kIn,?_⟩) hst hpl;exact JH (us:=.ref a::us) (vs:=.ref a::vs) F hr hb hd hx I2 (.cons rfl r) q2
theorem Jo {pl:Sem Bool}(he:PE X o ta)(c:Cls X.K C)(hm:Meth X.K C m f)(F:FnOk X.prog X.w X.K X.mg X.base CX k f fd ps sp)(hr:Room k X.A)(hb:Binds X.K fd ps ds)(hd:Vals dvs ds)(hx:X3 CX X E)
 (ht:eval (.Call (.Attribute o m apos) [] [] pos) X.env=(do
   let ov←eval o X.env
   standAt apos.atName
   let (f,first)←holding [ov] (getMethod ov m pl)
   callWith pos f first (backTo pos (starEach [] X.env)) (backToKw pos (keywordEach [] X.env))):=by rfl) :
 PE X (.Call (.Attribute o m apos) [] [] pos) (Z44 C m sp dvs E ta JN):=by
 intro pins s σ H Q I h;refine W.methodCall_KW (pl:=pl) (thn (he pins s σ H _ I h) λu s1 zq=>?_) ht;obtain⟨x,H1,I1,rx,a,dx,fs,ex,ea,l,q⟩:=zq;subst ex;obtain rfl:u=Value.ref a:=rx;refine Jw I1 ea c hm l ?_;exact W.callWith_K0 (first:=[.ref a]) I1.kIn hm.kp (JH (us:=[.ref a]) (vs:=[.ref a]) F hr hb hd hx I1 (.cons rfl .nil) q)
structure Mk (K:W.Frag)(C f:Addr):Prop where
 makes:W.makesIn K C=true
 init:W.findIn K (.ref C) "__init__" = some (some (.ref f))
 fn:W.isFn K (.ref f)=true
 kp:W.keepIn K (.ref C)=true
theorem Z22 {pins:List (Addr×Obj)}{σ:St}{H:Hp}{s:Shared}{Q:VK}{us:List Value}{vs:List V}(M:Mk X.K C f)(F:FnOk X.prog X.w X.K X.mg X.base CX k f fd ps sp)(hr:Room (k + 1) X.A)(hb:Binds X.K fd ps ds)(hd:Vals dvs ds)
 (hx:X3 CX X E) (I:Inv X pins σ H s) (r:Vals vs us)
 (h:∀ x dx,H x=none→H dx=none→dx≠x→sp (.ref x::(vs++dvs)) (upd (upd H dx (.own x)) x (.ins C dx [])) (λv H2=>v=.non∧Q (.ref x) H2) E) :
 wpAny (model X.prog X.w) X.A (call (.ref C) us) (EP X pins σ Q) X.xe s:=by
 have hq:=h (s.heap.objs.size + 1) s.heap.objs.size (I.hok.fresh (Nat.le_succ _)) (I.hok.fresh (Nat.le_refl _)) (Nat.ne_of_lt (Nat.lt_succ_self _));have I2:=Inv.made (C:=C) I;have r2:Vals (V.ref (s.heap.objs.size + 1)::(vs++dvs)) (Value.ref (s.heap.objs.size + 1)::(us++ds)):=.cons rfl (r.append hd);have hl:(Value.ref (s.heap.objs.size + 1)::us++ds).length=ps.length:=by
  have e:=r2.length;rw[F.len _ _ _ _ hq] at e;exact e.symm
 refine wpAny_call (Z65 (f:=f) I.kIn M.makes M.init (beq_iff_eq.mp M.fn) (codeAny_mono (F.run _ X.stack _ _ ⟨Value.ref (s.heap.objs.size + 1)::us,[]⟩ (Value.ref (s.heap.objs.size + 1)::(us++ds)) _ _ E (hr.make C us [])
  (I2.env0.make C us []) (hb _ (Value.ref (s.heap.objs.size + 1)::us) I2.kIn hl) r2 hq) λr s' hq'=>?_))
 cases r with
 | error e=>exact hx pins σ _ _ e s' I2 hq'
 | ok fl=>
   cases fl with
   | ret u=>
     obtain⟨v,H',I3,rv,ev,q3⟩:=I2.after hq';subst ev;exact⟨rv,⟨V.ref (s.heap.objs.size + 1),H',I3,rfl,q3⟩⟩
   | next=>exact False.elim hq'
   | brk=>exact False.elim hq'
   | cont=>exact False.elim hq'
theorem Xh (M:Mk X.K C f)(F:FnOk X.prog X.w X.K X.mg X.base CX k f fd ps sp)(hr:Room (k + 1) X.A)(hg:Gl X x)(hm:X.mg x=some (.ref C))(hb:Binds X.K fd ps ds)(hd:Vals dvs ds)(hx:X3 CX X E)
 (ha:PA X (e::es) t) (hdb:(x == ("__debug__" : Str))=false:=by decide) (he:starEach (e::es) X.env=(false,eval e X.env)::starEach es X.env:=by rfl) (hpl:(backTo pos (starEach es X.env)).any (·.1)=false:=by rfl) :
 PE X (.Call (.Name x p) (e::es) [] pos) (Z3J C sp dvs E t):=by
 intro pins s σ H Q I h;refine wpAny_Call_Name_kw (YV I hg hm ?_ hdb);refine W.callWith_K (h₀:=X.base) I.ok.mod.kin M.kp (thn (ha pos pins s σ H _ I h) λus s1 ⟨vs,H1,I1,r,q⟩=>⟨I1.kIn,?_⟩) he hpl;exact Z22 M F hr hb hd hx I1 r q
theorem Z5U (M:Mk X.K C f)(F:FnOk X.prog X.w X.K X.mg X.base CX k f fd ps sp)(hr:Room (k + 1) X.A)(hg:Gl X x)(hm:X.mg x=some (.ref C))(hb:Binds X.K fd ps ds)(hd:Vals dvs ds)(hx:X3 CX X E)
 (hdb:(x == ("__debug__" : Str))=false:=by decide):PE X (.Call (.Name x p) [] [] pos) (Z3J C sp dvs E JN):=by
 intro pins s σ H Q I h;refine wpAny_Call_Name_kw (YV I hg hm ?_ hdb);exact W.callWith_K0 I.kIn M.kp (Z22 (us:=[]) M F hr hb hd hx I .nil h)
end
section
variable {X:Cx}{CX:CXT}{k:Nat}{f C:Addr}{fd:FuncData}{ps ks:List Str}{sp:Sp}{E:XK}{x m:Str}{p pos apos kpos:Pos}{e o:Expr}{es:List Expr}{kws:List Keyword}{te ta:TE}{t tk:TA}{nm:Option Str}
variable {g:List Value→List Value→List Value}{gV:List V→List V→List V}
end
structure FnScope (N P:List Str)(sc:Scope):Prop where
 kind:sc.kind=.function
 co:sc.isCoroutine=false
 gen:sc.isGenerator=false
 nd:N.Nodup
 pre:N.take P.length=P
 par:∀ x∈P,sc.names.lookup x=some .local∨sc.names.lookup x=some .cell
 nofree:∀ y∈sc.names,y.2≠.free
theorem Z1o {kindOf:Str→Option NameKind}{x:Str}:∀ {binds:List (Str×Value)}{m:Str→Option Value},(∀ v,(x,v) ∉ binds)→bindL kindOf binds m x=m x
 | [],_,_=>rfl
 | (n,v)::r,m,h=>by
   unfold bindL;rw[Z1o λw hw=>h w (List.mem_cons_of_mem _ hw)]
   split
   ·have:x≠n:=by rintro rfl;exact h v List.mem_cons_self
    simp[this]
   ·rfl
theorem Z1p {kindOf:Str→Option NameKind}{x:Str}:∀ {binds:List (Str×Value)}{m:Str→Option Value},(∀ v,(x,v) ∉ binds)→bindC kindOf binds m x=m x
 | [],_,_=>rfl
 | (n,v)::r,m,h=>by
   unfold bindC;rw[Z1p λw hw=>h w (List.mem_cons_of_mem _ hw)]
   split
   ·rfl
   ·have:x≠n:=by rintro rfl;exact h v List.mem_cons_self
    simp[this]
theorem Z1E {kindOf:Str→Option NameKind}{x:Str}{v:Value}:∀ {P:List Str}{vs:List Value}{i:Nat}{m:Str→Option Value},P.Nodup→P[i]? = some x→vs[i]? = some v→kindOf x=some .local→
 bindL kindOf (P.zip vs) m x=some v
 | [],_,_,_,_,h,_,_=>by simp at h
 | _::_,[],_,_,_,_,h,_=>by simp at h
 | p::P,w::vs,0,m,nd,h1,h2,hk=>by
   simp at h1 h2;subst h1;subst h2;show bindL kindOf ((p,w)::P.zip vs) m p=_;unfold bindL;rw[Z1o λv hv=>(List.nodup_cons.mp nd).1 (List.of_mem_zip hv).1,if_pos hk];simp
 | p::P,w::vs,i + 1,m,nd,h1,h2,hk=>by
   show bindL kindOf ((p,w)::P.zip vs) m x=_;unfold bindL;exact Z1E (i:=i) (List.nodup_cons.mp nd).2 (by simpa using h1) (by simpa using h2) hk
theorem Z1w {kindOf:Str→Option NameKind}{x:Str}{v:Value}:∀ {P:List Str}{vs:List Value}{i:Nat}{m:Str→Option Value},P.Nodup→P[i]? = some x→vs[i]? = some v→kindOf x≠some .local→
 bindC kindOf (P.zip vs) m x=some v
 | [],_,_,_,_,h,_,_=>by simp at h
 | _::_,[],_,_,_,_,h,_=>by simp at h
 | p::P,w::vs,0,m,nd,h1,h2,hk=>by
   simp at h1 h2;subst h1;subst h2;show bindC kindOf ((p,w)::P.zip vs) m p=_;unfold bindC;rw[Z1p λv hv=>(List.nodup_cons.mp nd).1 (List.of_mem_zip hv).1,if_neg hk];simp
 | p::P,w::vs,i + 1,m,nd,h1,h2,hk=>by
   show bindC kindOf ((p,w)::P.zip vs) m x=_;unfold bindC;exact Z1w (i:=i) (List.nodup_cons.mp nd).2 (by simpa using h1) (by simpa using h2) hk
noncomputable def start (N:List Str)(vs:List V):St:=vs.map some++List.replicate (N.length - vs.length) none
noncomputable def Xv (CX:CXT)(P:Program)(w:World)(K:W.Frag)(mg:Str→Option Value)(base:Heap)(N:List Str)(qual:Str)(scope:Scope)(f:Addr)(cd:Value)(A:Around)(outer:List Env)(s:Shared)(H:Hp)(E:XK):Cx where
 prog:=P
 w:=w
 K:=K
 mg:=mg
 base:=base
 A:=A.deeper (envOfC qual scope s.heap.objs.size f cd)
 N:=N
 s₀:=s
 H₀:=H
 env:=envOfC qual scope s.heap.objs.size f cd
 outer:=outer
 stack:=envOfC qual scope s.heap.objs.size f cd::outer
 ex:=[]
 calm:=true
 fn:=λ_=>true
 pn:=[]
 xe:=λe s'=>wpAny (model P w) (A.deeper (envOfC qual scope s.heap.objs.size f cd)) (leaving (envOfC qual scope s.heap.objs.size f cd) e) (λ_ s''=>CX outer H s E e s'') (λe' s''=>CX outer H s E e' s'') s'
theorem Z2x {sc:Scope}{n:Nat}{x:Str}(h:sc.names.lookup x=some .cell):∃ c,(cellsFrom n sc.names []).lookup x=some c:=by
 have q:=W.cellsFrom_some sc.names n [] (.inl h);exact Option.isSome_iff_exists.mp q
theorem Z4y {CX:CXT}{P:Program}{w:World}{K:W.Frag}{mg:Str→Option Value}{base:Heap}{N ps:List Str}{qual:Str}{scope:Scope}{f:Addr}{cd:Value}{A:Around}{outer:List Env}{s s1:Shared}{H:Hp}{E:XK}{us:List Value}{vs:List V}
 (S:FnScope N ps scope) (hd:A.handled=none) (e0:Env0 P w K mg base A outer s H) (hl:vs.length=ps.length) (r:Vals vs us)
 (x:InCallC s s.heap.objs.size (bindL (envOfC qual scope s.heap.objs.size f cd).kindOf (ps.zip us) λ_=>none) (cellsFrom (s.heap.objs.size + 1) scope.names []) (bindC (envOfC qual scope s.heap.objs.size f cd).kindOf (ps.zip us) λ_=>none) s1) :
 Inv (Xv CX P w K mg base N qual scope f cd A outer s H E) [] (start N vs) H s1:=by
 have hpl:ps.length≤N.length:=by have:=congrArg List.length S.pre;rw[List.length_take] at this;omega
 obtain⟨h1,tk,rfl,hk⟩:=x.done;have noA:∀ b:Addr,b ∉ (Xv CX P w K mg base N qual scope f cd A outer s H E).ex:=λb z=>absurd (show b∈([]:List Addr) from z) (by simp);refine⟨⟨e0.mod,S.kind,rfl,rfl,Nat.le_refl _,λy z c h1 h2=>?_,λy hy=>?_,λy c _ h=>?_,λ_=>hd,Around.frames_deeper e0.frames,.inr ⟨rfl,rfl⟩,λb z=>absurd z (noA b),e0.bs,e0.bsz,λb _ _=>noA b,λb z=>absurd z (noA b),e0.funs,e0.frf⟩,
  rfl,e0.bare,Un.kept hk,⟨_,x.toInCall.ns,λi y v h1 h2 h3=>?_⟩,λy c h=>⟨_,x.cell y c h⟩,e0.hok.fresh (Nat.le_refl _),λy c h=>?_,λp hp=>absurd (show p∈([]:List (Addr×Obj)) from hp) (by simp),e0.hok.kept hk,?_⟩
 ·exact name_of_addr x.apart (PySem.mem_of_lookup h1) (PySem.mem_of_lookup h2)
 ·have hy:scope.names.lookup y=some .cell∨scope.names.lookup y=some .free:=hy
  rcases hy with hy|hy
  ·exact Z2x hy
  ·exact absurd rfl (S.nofree _ (PySem.mem_of_lookup hy))
 ·exact Nat.le_of_lt (x.above y c (PySem.mem_of_lookup h))
 ·have hi:i < vs.length:=by
   unfold start at h2
   by_cases hi:i < vs.length
   ·exact hi
   ·rw[List.getElem?_append_right (by simpa using hi)] at h2;rw[List.getElem?_replicate] at h2
    split at h2<;>cases h2
  have ha:vs[i]? = some v:=by
   unfold start at h2;rw[List.getElem?_append_left (by simpa using hi),List.getElem?_map] at h2;cases e:vs[i]? with
   | none=>rw[e] at h2;cases h2
   | some a=>rw[e] at h2;cases h2;rfl
  obtain⟨u,hu,rv⟩:=r.get ha;have hp:ps[i]? = some y:=by
   rw[←S.pre,List.getElem?_take_of_lt (by omega)];exact h1
  have ndP:ps.Nodup:=by rw[←S.pre];exact S.nd.sublist (List.take_sublist _ _)
  refine⟨u,rv,?_⟩
  rcases S.par y (List.mem_of_getElem? hp) with k|k
  ·exact .inl ⟨k,Z1E ndP hp hu k⟩
  ·obtain⟨c,e⟩:=Z2x (n:=s.heap.objs.size + 1) k;refine .inr ⟨.inl k,c,e,?_⟩;have q:=x.cell y c e;rw[Z1w ndP hp hu (by show scope.names.lookup y≠_;rw[k];decide)] at q;exact q
 ·exact e0.hok.fresh (Nat.le_of_lt (x.above y c (PySem.mem_of_lookup h)))
 ·unfold start;show _=N.length;rw[List.length_append,List.length_map,List.length_replicate];omega
theorem Z6q {CX:CXT}{P:Program}{w:World}{K:W.Frag}{mg:Str→Option Value}{base:Heap}{k:Nat}{f:Addr}{name qual:Str}{params:Arguments}{body:List Stmt}{scope:Scope}{dV kV doc pm cdv ct oc:Value}{an od:Option Addr}
 {osl:Array (Option Value)}{N ps:List Str}{sp:Sp} (lk:K.lookup f=some ⟨oc,od,.func (W.fnOf name qual params body scope dV kV doc pm an cdv ct),osl⟩) (hcd:W.codeIn K cdv qual=true) (S:FnScope N ps scope)
 (len:∀ vs H Q E,sp vs H Q E→vs.length=ps.length)
 (hbody:∀ (A:Around) (outer:List Env) (s:Shared) (H:Hp) (vs:List V) (Q:VK) (E:XK),Room k (A.deeper (envOfC qual scope s.heap.objs.size f cdv))→sp vs H Q E→
   ∃ t,PSs (Xv CX P w K mg base N qual scope f cdv A outer s H E) body t∧t { nx:=λ_ H'=>Q .non H',rt:=Q } (start N vs) H) :
 FnOk P w K mg base CX (k + 1) f (W.fnOf name qual params body scope dV kV doc pm an cdv ct) ps sp:=by
 refine⟨len,λA outer s H args us vs Q E hr e0 hb r hsp=>?_⟩;have hl:=len _ _ _ _ hsp;have KX:K.In s.heap:=e0.mod.kin.keeps λb o e=>(e0.bs b o e).1;have lim:s.heap.NoLimit:=e0.mod.nolimit.keeps λb o e=>(e0.bs b o e).1;have hkind:∀ y∈ps.zip us,scope.names.lookup y.1=some .local∨(scope.names.lookup y.1=some .cell∧((cellsFrom (s.heap.objs.size + 1) scope.names []).lookup y.1).isSome=true):=λ⟨n,v⟩ hy=>by
  rcases S.par n (List.of_mem_zip hy).1 with q|q
  ·exact .inl q
  ·exact .inr ⟨q,W.cellsFrom_some _ _ _ (.inl q)⟩
 refine codeAny_call_function hr.depth (KX _ _ lk) rfl S.co S.gen rfl (W.codeRec_of KX hcd) (hb _ _ _ _ ?_);refine wpAny_newFunctionEnv_cells S.kind hkind λenv he s1 x=>?_;subst he;refine⟨lim.keeps x.toInCall.keep,codeAny_func ?_⟩;obtain⟨t,ht,hq⟩:=hbody A outer s H vs Q E (hr.deeper _) hsp;have I:Inv (Xv CX P w K mg base N qual scope f cdv A outer s H E) [] (start N vs) H s1:=Z4y S hr.hd e0 hl r x;refine wpAny_mono (ht [] s1 (start N vs) H _ I hq) (λfl s' hs=>?_) λe s' hs=>hs;have fin:∀ {σ':St}{H':Hp}{v:V}{u:Value},Inv (Xv CX P w K mg base N qual scope f cdv A outer s H E) [] σ' H' s'→RelV v u→Q v H'→CE outer P w H s Q u s':=
  fun {σ' H' v u} J rv q=>⟨v,H',J.os,J.bare,J.base,J.hok,rv,q⟩
 cases fl with
 | ret u=>
   obtain⟨v,σ',H',J,rv,q⟩:=hs;exact fin J rv q
 | next=>
   obtain⟨σ',H',J,q⟩:=hs;exact fin (v:=V.non) (u:=Value.none) J rfl q
 | brk=>
   obtain⟨_,_,_,q⟩:=hs;exact False.elim q
 | cont=>
   obtain⟨_,_,_,q⟩:=hs;exact False.elim q
section
variable {X:Cx}{x:Str}{p pos:Pos}{e:Expr}{es:List Expr}{t:TA}{id T:String}{r:List V→Hp→VK→Prop}
noncomputable def tCB (r:List V→Hp→VK→Prop)(t:TA):TE:=λσ H Q=>t σ H λvs H1=>r vs H1 Q
theorem ZA (hc:YK X (.builtin id) r)(hg:Gl X x)(hm:X.mg x=none)(hv:bootBuiltins x=some (.builtin id))(ha:PA X (e::es) t)(hn:x≠"__name__":=by decide)(hdb:(x == ("__debug__" : Str))=false:=by decide)
 (he:starEach (e::es) X.env=(false,eval e X.env)::starEach es X.env:=by rfl) (hpl:(backTo pos (starEach es X.env)).any (·.1)=false:=by rfl):PE X (.Call (.Name x p) (e::es) [] pos) (tCB r t):=by
 intro pins s σ H Q I h;refine wpAny_Call_Name_kw (Jj I hg hm hv ?_ hn hdb);exact PyProof.Rows.callWith_builtin1 (thn (ha pos pins s σ H _ I h) λus s1 ⟨vs,H1,I1,r1,q1⟩=>hc pins s1 σ H1 vs us Q I1 r1 q1) he hpl
theorem XU (hc:YK X (.type T) r)(hg:Gl X x)(hm:X.mg x=none)(hv:bootBuiltins x=some (.type T))(ha:PA X (e::es) t)(hn:x≠"__name__":=by decide)(hdb:(x == ("__debug__" : Str))=false:=by decide)
 (he:starEach (e::es) X.env=(false,eval e X.env)::starEach es X.env:=by rfl) (hpl:(backTo pos (starEach es X.env)).any (·.1)=false:=by rfl):PE X (.Call (.Name x p) (e::es) [] pos) (tCB r t):=by
 intro pins s σ H Q I h;refine wpAny_Call_Name_kw (Jj I hg hm hv ?_ hn hdb);exact PyProof.Rows.callWith_type1 (thn (ha pos pins s σ H _ I h) λus s1 ⟨vs,H1,I1,r1,q1⟩=>hc pins s1 σ H1 vs us Q I1 r1 q1) he hpl
end
end L2
namespace HT
open PySem PyProof.Rows
section
open PySem.SeqAt
open PySem.AutoSeq1 (wpAny_loadPart')
open PySem.MeetsSeq PySem.MeetsSeq2 PySem.MeetsSeq3
end
section
variable {prog:Program}{w:World}{A:Around}{E:Value→Shared→Prop}{s:Shared}
end
end HT
namespace L2
open PySem PySem.Spec PyProof.Rows
noncomputable abbrev TO:=St→Hp→(Option Int→Hp→Prop)→Prop
noncomputable def PO (X:Cx)(e:Option Expr)(t:TO):Prop:=
 ∀ (pins:List (Addr×Obj)) (s:Shared) (σ:St) (H:Hp) (Q:Option Int→Hp→Prop),Inv X pins σ H s→t σ H Q→
   wpAny (model X.prog X.w) X.A (evalPart e X.env) (λu s'=>∃ o H',Inv X pins σ H' s'∧IsPart u o∧Q o H') X.xe s
noncomputable def Z3r:TO:=λ_ H Q=>Q none H
noncomputable def Z6m (t:TE):TO:=λσ H Q=>t σ H λx H1=>∃ i,x=.int i∧Q (some i) H1
section
variable {X:Cx}{e:Expr}{te:TE}{lo hi:Option Expr}{tl th:TO}{pos p2:Pos}
theorem Z18:PO X none Z3r:=by
 intro pins s σ H Q I h;rw[evalPart_none];exact wpAny_pure ⟨none,H,I,.none,h⟩
theorem Z1k (h:PE X e te):PO X (some e) (Z6m te):=by
 intro pins s σ H Q I hw;rw[evalPart_some];refine thn (h pins s σ H _ I hw) λu s1 zq=>?_;obtain⟨x,H1,I1,r1,q1⟩:=zq;obtain⟨i,rfl,q⟩:=q1;obtain⟨t,rfl⟩:=r1;exact⟨some i,H1,I1,.int i t,q⟩
noncomputable def SlR (X:Cx)(r:V→Option Int→Option Int→Hp→VK→Prop):Prop:=
 ∀ (pins:List (Addr×Obj)) (s:Shared) (σ:St) (H:Hp) (x:V) (v vl vu:Value) (lo hi:Option Int) (sl:Addr) (Q:VK),Inv X pins σ H s→RelV x v→s.heap.IsSliceOf sl vl vu .none→IsPart vl lo→IsPart vu hi→r x lo hi H Q→
   ∃ T id,typeLookup (.type T) "__getitem__" = pure (some (.builtin id))∧s.TypeIs v T∧wpAny (model X.prog X.w) X.A (getItem v (.ref sl)) (EP X pins σ Q) X.xe s
noncomputable def tSl (r:V→Option Int→Option Int→Hp→VK→Prop)(te:TE)(tl th:TO):TE:=λσ H Q=>te σ H λx H1=>tl σ H1 λl H2=>th σ H2 λu H3=>r x l u H3 Q
theorem Z0m {r:V→Option Int→Option Int→Hp→VK→Prop}(hr:SlR X r)(he:PE X e te)(hl:PO X lo tl)(hu:PO X hi th):PE X (.Subscript e (.Slice lo hi none p2) pos) (tSl r te tl th):=by
 intro pins s σ H Q I h;refine Subscript_ (thn (he pins s σ H _ I h) λv s1 zq=>?_);obtain⟨x,H1,I1,r1,q1⟩:=zq;refine wpAny_Slice (thn (hl pins s1 σ H1 _ I1 q1) λvl s2 ⟨l,H2,I2,pl,q2⟩=>thn (hu pins s2 σ H2 _ I2 q2) λvu s3 zq=>?_);obtain⟨u,H3,I3,pu,q3⟩:=zq;rw[evalPart_none];refine wpAny_pure ?_;have I4:Inv X pins σ H3 { s3 with heap:=s3.heap.push { cls:=.type "slice",data:=.fields #[vl,vu,.none] } }:=I3.kept (t':=s3.toks) λb ob q=>Heap.get?_push_of_some _ q;obtain⟨T,id,hT,ht,hg⟩:=hr pins { s3 with heap:=s3.heap.push { cls:=.type "slice",data:=.fields #[vl,vu,.none] } } σ H3 x v vl vu l u s3.heap.objs.size Q I4 r1 (Heap.IsSliceOf.new ..) pl pu q3;show wpAny (model X.prog X.w) X.A (subscriptTail e (.Slice lo hi none p2) v (.ref s3.heap.objs.size)) (EP X pins σ Q) X.xe { s3 with heap:=s3.heap.push { cls:=.type "slice",data:=.fields #[vl,vu,.none] } };exact tail_any (ops:=[.ref s3.heap.objs.size,v]) ht hT hg (by with_unfolding_all rfl)
end
noncomputable def ixN (n:Nat)(i:Int):Option Nat:=if 0≤i then (if i < n then some i.toNat else none) else if -(n:Int)≤i then some (i + n).toNat else none
noncomputable def atI {α:Type}(xs:List α)(i:Int):Option α:=(ixN xs.length i).bind λj=>xs[j]?
theorem Z3p {n:Nat}{i:Int}{j:Nat}(h:ixN n i=some j):seqIndex? i n=some j∧j < n∧-(n:Int)≤i∧i < n:=by
 unfold ixN at h
 by_cases h0:0≤i
 ·rw[if_pos h0] at h
  by_cases h1:i < n
  ·rw[if_pos h1] at h;have e:i.toNat=j:=Option.some.inj h;exact⟨by rw[seqIndex_of h0 h1,e],by omega,by omega,h1⟩
  ·rw[if_neg h1] at h;cases h
 ·rw[if_neg h0] at h
  by_cases h1:-(n:Int)≤i
  ·rw[if_pos h1] at h;have e:(i + n).toNat=j:=Option.some.inj h;exact⟨by rw[seqIndex_neg (by omega) h1,e],by omega,h1,by omega⟩
  ·rw[if_neg h1] at h;cases h
theorem Z17 {α:Type}{xs:List α}{i:Int}{v:α}(h:atI xs i=some v):∃ j,seqIndex? i xs.length=some j∧xs[j]? = some v∧j < xs.length∧-(xs.length:Int)≤i∧i < xs.length:=by
 unfold atI at h;cases e:ixN xs.length i with
 | none=>rw[e] at h;cases h
 | some j=>
   rw[e] at h;obtain⟨h1,h2,h3,h4⟩:=Z3p e;exact⟨j,h1,h,h2,h3,h4⟩
theorem Zx {α:Type}{xs:List α}{j:Nat}{v:α}(h:xs[j]? = some v):atI xs (j:Int)=some v:=by
 have hj:j < xs.length:=(List.getElem?_eq_some_iff.mp h).1;have e:ixN xs.length (j:Int)=some j:=by
  unfold ixN;rw[if_pos (by omega),if_pos (by omega)];simp
 unfold atI;rw[e];exact h
theorem Z0r {α:Type}(xs:List α)(v:α):atI (xs++[v]) (-1)=some v:=by
 have hl:(xs++[v]).length=xs.length + 1:=by simp
 have e:ixN (xs++[v]).length (-1)=some xs.length:=by
  unfold ixN;rw[hl,if_neg (by decide),if_pos (by omega)]
  congr 1
  omega
 unfold atI;rw[e];show (xs++[v])[xs.length]? = some v;simp
noncomputable def Z6L (b:Expr):Prop:=∀ o i,subscripted b false o i=operate [o,i] (getItem o i)
noncomputable def IxR (X:Cx)(r:R2):Prop:=
 ∀ (value slice:Expr) (pins:List (Addr×Obj)) (s:Shared) (σ:St) (H:Hp) (x y:V) (v u:Value) (Q:VK),Inv X pins σ H s→RelV x v→RelV y u→r x y H Q→
   subscripted slice false v u=operate [v,u] (getItem v u)→wpAny (model X.prog X.w) X.A (subscriptTail value slice v u) (EP X pins σ Q) X.xe s
noncomputable def MtR (X:Cx)(id:String)(r:V→List V→Hp→VK→Prop):Prop:=
 ∀ (pins:List (Addr×Obj)) (s:Shared) (σ:St) (H:Hp) (x:V) (xs:List V) (v:Value) (us:List Value) (Q:VK),Inv X pins σ H s→RelV x v→Vals xs us→r x xs H Q→
   wpAny (model X.prog X.w) X.A (call (.builtin id) (v::us)) (EP X pins σ Q) X.xe s
section
variable {X:Cx}{a b:Expr}{ta tb:TE}{pos:Pos}
theorem Zg {r:R2}(hr:IxR X r)(ha:PE X a ta)(hb:PE X b tb)(hs:Z6L b):PE X (.Subscript a b pos) (tOp r ta tb):=by
 intro pins s σ H Q I h;exact Subscript_ (Z5Z ha hb I h λv u s2 x y H2 I2 rx ry q=>hr a b pins s2 σ H2 x y v u Q I2 rx ry q (hs _ _))
noncomputable def Z64 (K:W.Frag):R2:=λx y H Q=>∃ p xs i v,x=.ref p∧y=.int i∧SqL K H p xs∧atI xs i=some v∧Q v H
noncomputable def Z5A (K:W.Frag):R2:=λx y H Q=>∃ p xs i v,x=.ref p∧y=.int i∧SqT K H p xs∧atI xs i=some v∧Q v H
noncomputable def Z8b:R2:=λx y H Q=>∃ z i c,x=.str z∧y=.int i∧z.length≤sizeLine∧atI z.cps.toList i=some c∧Q (.str ⟨#[c]⟩) H
theorem Z6S:IxR X (Z64 X.K):=by
 intro value slice pins s σ H x y v u Q I rx ry h hs;obtain⟨p,xs,i,z,rfl,rfl,hq,he,q⟩:=h;cases rx;obtain⟨t,rfl⟩:=ry;obtain⟨its,r,pl,hz⟩:=I.list hq;obtain⟨j,h1,h2,h3,h4,h5⟩:=Z17 he;obtain⟨w,ew,rw'⟩:=r.get h2;have hl:=r.length;have hn:=XO;have fin:EP X pins σ Q w s:=⟨z,H,I,rw',q⟩
 by_cases h0:0≤i
 ·have hj:i.toNat=j:=by
   rw[seqIndex_of h0 h5] at h1;exact Option.some.inj h1
  exact item_listR pl.isList h0 (by omega) (by rw[hj];simpa using ew) fin hs
 ·have hj:(i + (its.toArray.size:Int)).toNat=j:=by
   rw[seqIndex_neg (by omega) h4] at h1;rw[List.size_toArray,←hl];exact Option.some.inj h1
  exact subscriptTail_builtinR (x:=w) pl.isList.typeIs slot_list_getitem.lookup
   (wpAny_getItem_list_neg (Q:=λr s'=>r=w∧EP X pins σ Q r s') pl.isList (by omega) (by rw[List.size_toArray]<;>omega) (by omega) (by rw[hj];simpa using ew) ⟨rfl,fin⟩) hs
theorem Z7G:IxR X (Z5A X.K):=by
 intro value slice pins s σ H x y v u Q I rx ry h hs;obtain⟨p,xs,i,z,rfl,rfl,hq,he,q⟩:=h;cases rx;obtain⟨t,rfl⟩:=ry;obtain⟨its,r,pl,hz⟩:=I.tuple hq;obtain⟨j,h1,h2,h3,h4,h5⟩:=Z17 he;obtain⟨w,ew,rw'⟩:=r.get h2;have hl:=r.length;have hn:=XO;have fin:EP X pins σ Q w s:=⟨z,H,I,rw',q⟩;exact subscriptTail_builtinR (x:=w) pl.typeIs slot_tuple_getitem.lookup
  (getItem_tuple (j:=j) (Q:=λr s'=>r=w∧EP X pins σ Q r s') pl (by omega) (by omega) (by rw[List.size_toArray,←hl];exact h1) (by simpa using ew) ⟨rfl,fin⟩) hs
theorem Z2P:IxR X Z8b:=by
 intro value slice pins s σ H x y v u Q I rx ry h hs;obtain⟨z,i,c,rfl,rfl,hz,he,q⟩:=h;obtain⟨t,rfl⟩:=rx;obtain⟨t',rfl⟩:=ry;obtain⟨j,h1,h2,h3,h4,h5⟩:=Z17 he;have hl:z.cps.toList.length=z.length:=by simp[Str.length]
 rw[hl] at h1 h4 h5;have hn:=XO;exact tail_any (typeIs_str s z t) slot_str_getitem.lookup (getItem_str (c:=c) (by
  have e1:decide (i < -(2 ^ 63:Int))=false:=decide_eq_false (by omega);have e2:decide (i ≥ 2 ^ 63)=false:=decide_eq_false (by omega);rw[e1,e2,Bool.or_false]) (by rw[h1];simpa using h2) ⟨.str ⟨#[c]⟩,H,I.tok _,⟨_,rfl⟩,q⟩) hs
theorem Z4l (its:List Value)(n j:Nat)(u:Value):Obj.mapSeq (·.setIfInBounds j u) { cls:=.type "list",data:=.seq its.toArray n } = { cls:=.type "list",data:=.seq (its.set j u).toArray n }:=by
 simp[Obj.mapSeq]
theorem Inv.lst {pins:List (Addr×Obj)}{σ:St}{H:Hp}{s:Shared}{p:Addr}{xs:List V}(I:Inv X pins σ H s)(h:H p=some (.lst xs)) :
 ∃ (its:List Value) (n:Nat),Vals xs its∧s.heap.get? p=some { cls:=.type "list",data:=.seq its.toArray n }∧xs.length≤sizeLine:=by
 obtain⟨z,its,n,r,e⟩:=I.hok p _ h;exact⟨its,n,r,e,z⟩
theorem Inv.lstUpd {pins:List (Addr×Obj)}{σ:St}{H:Hp}{s:Shared}{p:Addr}{xs ys:List V}{its its':List Value}{n n':Nat}{f:Obj→Obj}(I:Inv X pins σ H s)(h:H p=some (.lst xs))
 (ho:s.heap.get? p=some { cls:=.type "list",data:=.seq its.toArray n }) (hf:f { cls:=.type "list",data:=.seq its.toArray n } = { cls:=.type "list",data:=.seq its'.toArray n' }) (r:Vals ys its') (hz:ys.length≤sizeLine) (t:Nat) :
 Inv X pins σ (upd H p (.lst ys)) { s with heap:=s.heap.update p f,toks:=t }:=by
 have e:(s.heap.update p f).get? p=some { cls:=.type "list",data:=.seq its'.toArray n' }:=by
  rw[Heap.get?_update_self f ho (by rw[hf]<;>rfl),hf]
 refine I.write (x:=p) (e:=p) (by rw[h];trivial) (.inl rfl) (λb u hb q=>(Heap.get?_update_other _ _ (Ne.symm hb)).trans q) ⟨_,e⟩ ?_;exact⟨hz,its',n',r,e⟩
noncomputable def Z6D:V→V→V→Hp→(Hp→Prop)→Prop:=λo i v H Q=>∃ p xs k j,o=.ref p∧i=.int k∧H p=some (.lst xs)∧ixN xs.length k=some j∧Q (upd H p (.lst (xs.set j v)))
theorem XD:Z7p X Z6D:=by
 intro pins s σ H o i v ov iv u Q I ro ri rv h;obtain⟨p,xs,k,j,rfl,rfl,hp,hj,q⟩:=h;cases ro;obtain⟨t,rfl⟩:=ri;obtain⟨its,n,r,ho,hz⟩:=I.lst hp;obtain⟨h1,h2,h3,h4⟩:=Z3p hj;have hl:=r.length;have hn:=XO;have I':Inv X pins σ (upd H p (.lst (xs.set j v))) { s with heap:=s.heap.update p (Obj.mapSeq (·.setIfInBounds j u)) }:=
  I.lstUpd hp ho (Z4l its n j u) (r.set rv j) (by rw[List.length_set];exact hz) s.toks
 by_cases h0:0≤k
 ·have hk:k.toNat=j:=by
   rw[seqIndex_of h0 h4] at h1;exact Option.some.inj h1
  exact W.ki_setAt ho h0 (by omega) (by rw[List.size_toArray,←hl];exact h4) (by rw[hk];exact⟨_,I',q⟩)
 ·have hk:(k + (its.toArray.size:Int)).toNat=j:=by
   rw[seqIndex_neg (by omega) h3] at h1;rw[List.size_toArray,←hl];exact Option.some.inj h1
  exact W.ki_setBack ho (by omega) (by rw[List.size_toArray,←hl];exact h3) (by omega) (by rw[hk];exact⟨_,I',q⟩)
noncomputable def Xn:V→Bool
 | .non=>true
 | .bl _=>true
 | .int _=>true
 | .str _=>true
 | _=>false
noncomputable def eqV:V→V→Bool
 | .non,.non=>true
 | .bl a,.bl b=>a == b
 | .bl a,.int b=>(if a then 1 else 0) == b
 | .int a,.bl b=>a == (if b then 1 else 0)
 | .int a,.int b=>a == b
 | .str a,.str b=>a == b
 | _,_=>false
theorem Z7I {A:Around}{s:Shared}{y x:V}{u v:Value}(ry:RelV y u)(rx:RelV x v)(fy:Xn y=true)(fx:Xn x=true):SeqAt.EqAt A s u v (eqV y x):=by
 cases y with
 | non=>
   cases ry;cases x with
   | non=>cases rx;exact SeqAt.EqAt.same _
   | bl b=>cases rx;exact SeqAt.EqAt.none_bool b
   | int b=>obtain⟨t,rfl⟩:=rx;exact SeqAt.EqAt.none_int b t
   | str b=>obtain⟨t,rfl⟩:=rx;exact SeqAt.EqAt.none_str b t
   | _=>exact absurd (show false=true from fx) Bool.false_ne_true
 | bl a=>
   cases ry;cases x with
   | non=>cases rx;exact SeqAt.EqAt.bool_none a
   | bl b=>cases rx;exact SeqAt.EqAt.bool_bool a b
   | int b=>obtain⟨t,rfl⟩:=rx;exact SeqAt.EqAt.bool_int a b t
   | str b=>obtain⟨t,rfl⟩:=rx;exact SeqAt.EqAt.bool_str a b t
   | _=>exact absurd (show false=true from fx) Bool.false_ne_true
 | int a=>
   obtain⟨t',rfl⟩:=ry;cases x with
   | non=>cases rx;exact SeqAt.EqAt.int_none a t'
   | bl b=>cases rx;exact SeqAt.EqAt.int_bool a t' b
   | int b=>obtain⟨t,rfl⟩:=rx;exact SeqAt.EqAt.int_int a t' b t
   | str b=>obtain⟨t,rfl⟩:=rx;exact SeqAt.EqAt.int_str a t' b t
   | _=>exact absurd (show false=true from fx) Bool.false_ne_true
 | str a=>
   obtain⟨t',rfl⟩:=ry;cases x with
   | non=>cases rx;exact SeqAt.EqAt.str_none a t'
   | bl b=>cases rx;exact SeqAt.EqAt.str_bool a t' b
   | int b=>obtain⟨t,rfl⟩:=rx;exact SeqAt.EqAt.str_int a t' b t
   | str b=>obtain⟨t,rfl⟩:=rx;exact SeqAt.EqAt.str_str a t' b t
   | _=>exact absurd (show false=true from fx) Bool.false_ne_true
 | _=>exact absurd (show false=true from fy) Bool.false_ne_true
noncomputable def eqU (x:V)(u:Value):Bool:=match u with
 | .none=>eqV .non x
 | .bool b=>eqV (.bl b) x
 | .int i _=>eqV (.int i) x
 | .str z _=>eqV (.str z) x
 | _=>false
theorem Z4W {x y:V}{u:Value}(r:RelV y u)(f:Xn y=true):eqU x u=eqV y x:=by
 cases y with
 | non=>cases r;rfl
 | bl b=>cases r;rfl
 | int i=>obtain⟨t,rfl⟩:=r;rfl
 | str z=>obtain⟨t,rfl⟩:=r;rfl
 | _=>exact absurd (show false=true from f) Bool.false_ne_true
theorem J8 {x:V}:∀ {xs:List V}{us:List Value},Vals xs us→xs.all Xn=true→us.any (eqU x)=xs.any λy=>eqV y x
 | _,_,.nil,_=>rfl
 | y::xs,u::us,.cons r t,f=>by
   rw[List.all_cons,Bool.and_eq_true] at f;rw[List.any_cons,List.any_cons,Z4W r f.1,J8 t f.2]
theorem XG {A:Around}{s:Shared}{x:V}{v:Value}(rx:RelV x v)(fx:Xn x=true):∀ {xs:List V}{us:List Value},Vals xs us→xs.all Xn=true→∀ u∈us,SeqAt.EqAt A s u v (eqU x u)
 | _,_,.nil,_=>λu hu=>by cases hu
 | y::xs,u::us,.cons r t,f=>λu' hu=>by
   rw[List.all_cons,Bool.and_eq_true] at f
   rcases List.mem_cons.mp hu with rfl|hu
   ·rw[Z4W r f.1];exact Z7I r rx f.1 fx
   ·exact XG rx fx t f.2 u' hu
noncomputable def inV (x:V)(xs:List V):Bool:=xs.any λy=>eqV y x
noncomputable def rIn (K:W.Frag)(neg:Bool):R2:=λx y H Q=>∃ p xs,y=.ref p∧(SqL K H p xs∨SqT K H p xs)∧Xn x=true∧xs.all Xn=true∧Q (.bl (if neg then !inV x xs else inV x xs)) H
theorem Z4O:OpR X (compareOp .In) (rIn X.K false):=by
 intro pins s σ H x y v u Q I rx ry h;obtain⟨p,xs,rfl,hq,fx,fs,q⟩:=h;cases ry
 rcases hq with hq|hq
 ·obtain⟨its,r,pl,hz⟩:=I.list hq;refine SeqAt.in_listAt (eqU x) pl.isList (λw hw=>XG rx fx r fs w (by simpa using hw)) ⟨.bl _,H,I,rfl,?_⟩;rw[show its.toArray.any (eqU x)=its.any (eqU x) by simp,J8 r fs];exact q
 ·obtain⟨its,r,pl,hz⟩:=I.tuple hq;refine SeqAt.in_tupleAt (eqU x) pl (λw hw=>XG rx fx r fs w (by simpa using hw)) ⟨.bl _,H,I,rfl,?_⟩;rw[show its.toArray.any (eqU x)=its.any (eqU x) by simp,J8 r fs];exact q
theorem Z2C:OpR X (compareOp .NotIn) (rIn X.K true):=by
 intro pins s σ H x y v u Q I rx ry h;obtain⟨p,xs,rfl,hq,fx,fs,q⟩:=h;cases ry
 rcases hq with hq|hq
 ·obtain⟨its,r,pl,hz⟩:=I.list hq;refine SeqAt.notIn_listAt (eqU x) pl.isList (λw hw=>XG rx fx r fs w (by simpa using hw)) ⟨.bl _,H,I,rfl,?_⟩;rw[show its.toArray.any (eqU x)=its.any (eqU x) by simp,J8 r fs];exact q
 ·obtain⟨its,r,pl,hz⟩:=I.tuple hq;refine SeqAt.notIn_tupleAt (eqU x) pl (λw hw=>XG rx fx r fs w (by simpa using hw)) ⟨.bl _,H,I,rfl,?_⟩;rw[show its.toArray.any (eqU x)=its.any (eqU x) by simp,J8 r fs];exact q
theorem Z2Q:YK X (.builtin "len") (λxs H Q=>∃ p ys,xs=[.ref p]∧(SqL X.K H p ys∨SqT X.K H p ys)∧Q (.int ys.length) H):=by
 intro pins s σ H xs us Q I r h;obtain⟨p,ys,rfl,hq,q⟩:=h;obtain⟨u,rfl,rx⟩:=Xc r;cases rx;have hn:=XO
 rcases hq with hq|hq
 ·obtain⟨its,r',pl,hz⟩:=I.list hq;have hlen:=r'.length;exact Calls.call_len_list pl.isList (by simp only[List.size_toArray]<;>omega) ⟨.int ys.length,H,I.tok _,⟨s.toks + 1,by rw[List.size_toArray,hlen]⟩,q⟩
 ·obtain⟨its,r',pl,hz⟩:=I.tuple hq;have hlen:=r'.length;exact len_tuple pl (by simp only[List.size_toArray]<;>omega) ⟨.int ys.length,H,I.tok _,⟨s.toks + 1,by rw[List.size_toArray,hlen]⟩,q⟩
theorem JL:YK X (.builtin "len") (λxs H Q=>∃ z,xs=[.str z]∧z.length≤sizeLine∧Q (.int z.length) H):=by
 intro pins s σ H xs us Q I r h;obtain⟨z,rfl,hz,q⟩:=h;obtain⟨u,rfl,t,rfl⟩:=Xc r;have hn:=XO;exact len_str (by omega) ⟨.int z.length,H,I.tok _,⟨_,rfl⟩,q⟩
theorem Z21:YK X (.type "list") (λxs H Q=>∃ p ys,xs=[.ref p]∧(SqL X.K H p ys∨SqT X.K H p ys)∧∀ l,H l=none→Q (.ref l) (upd H l (.lst ys))):=by
 intro pins s σ H xs us Q I r h;obtain⟨p,ys,rfl,hq,q⟩:=h;obtain⟨u,rfl,rx⟩:=Xc r;cases rx;have fin:∀ (its:List Value),Vals ys its→ys.length≤sizeLine→∀ (h':Heap) (c':Nat),(∀ b o',s.heap.get? b=some o'→h'.get? b=some o')→
  h'.get? s.heap.objs.size=some { cls:=.type "list",dict:=none,data:=.seq its.toArray c',slots:=#[] }→EP X pins σ Q (.ref s.heap.objs.size) { s with heap:=h' }:=λits r' hz h' c' kp e=>
  ⟨.ref s.heap.objs.size,_,I.laid (t':=s.toks) kp (Nat.le_refl _) (show ObjOk X.prog X.w _ h' _ (.lst ys) from ⟨hz,its,c',r',e⟩),rfl,q _ (I.hok.fresh (Nat.le_refl _))⟩
 rcases hq with hq|hq
 ·obtain⟨its,r',pl,hz⟩:=I.list hq;have hlen:=r'.length;obtain⟨o,ho,hc,n,hd⟩:=pl.isList;exact call_list_seq p (.inl rfl) ho hc hd (λh' c' kp e=>fin its r' hz h' c' kp e) (by simp only[List.size_toArray]<;>omega)
 ·obtain⟨its,r',pl,hz⟩:=I.tuple hq;have hlen:=r'.length;obtain⟨o,ho,hc,n,hd⟩:=pl;exact call_list_seq p (.inr rfl) ho hc hd (λh' c' kp e=>fin its r' hz h' c' kp e) (by simp only[List.size_toArray]<;>omega)
noncomputable def tyV (K:W.Frag)(T:String)(x:V)(H:Hp):Prop:=match x with
 | .str _=>T="str"
 | .int _=>T="int"
 | .ref p=>(T="list"∧∃ xs,SqL K H p xs)∨(T="tuple"∧∃ o,K.lookup p=some o∧o.cls=.type "tuple"∧o.dict=none)∨
  (T="dict"∧((∃ kvs,H p=some (.dK kvs))∨∃ kvs,H p=some (.dT kvs)))∨(T="set"∧∃ S n,H p=some (.set S n))
 | _=>False
theorem Z4v {pins:List (Addr×Obj)}{σ:St}{H:Hp}{s:Shared}{T:String}{x:V}{v:Value}(I:Inv X pins σ H s)(r:RelV x v)(ty:tyV X.K T x H) :
 s.TypeIs v T∧∀ a,v=.ref a→∃ ob,s.heap.get? a=some ob∧ob.dict=none:=by
 cases x with
 | str z=>
   obtain⟨t,rfl⟩:=r;cases (show T="str" from ty);exact⟨typeIs_str s z t,λ_ e=>nomatch e⟩
 | int i=>
   obtain⟨t,rfl⟩:=r;cases (show T="int" from ty);exact⟨typeIs_int s i t,λ_ e=>nomatch e⟩
 | ref p=>
   cases r
   rcases ty with⟨rfl,xs,hq⟩|⟨rfl,o,hk,hc,hd⟩|⟨rfl,hk⟩|⟨rfl,S,n,hk⟩
   ·obtain⟨its,_,pl,_⟩:=I.list hq;refine⟨pl.isList.typeIs,λa e=>?_⟩;cases e;obtain⟨o,n,e,c,hd,_⟩:=pl;exact⟨o,e,hd⟩
   ·refine⟨⟨o,I.kIn p o hk,hc⟩,λa e=>?_⟩;cases e;exact⟨o,I.kIn _ o hk,hd⟩
   ·have z:∃ o,s.heap.get? p=some o∧o.ExactDict:=by
     rcases hk with⟨kvs,hk⟩|⟨kvs,hk⟩
     ·obtain⟨_,_,_,_,o,_,_,e,ex,_⟩:=I.hok p _ hk;exact⟨o,e,ex⟩
     ·obtain⟨_,_,_,_,o,_,_,e,ex,_⟩:=I.hok p _ hk;exact⟨o,e,ex⟩
    obtain⟨o,e,ex⟩:=z;refine⟨⟨o,e,ex.1⟩,λa e2=>?_⟩;cases e2;exact⟨o,e,ex.2.1⟩
   ·obtain⟨o,_,_,_,e,ex,_⟩:=I.hok p _ hk;refine⟨⟨o,e,ex.1⟩,λa e2=>?_⟩;cases e2;exact⟨o,e,ex.2.1⟩
 | _=>exact False.elim ty
noncomputable def Z7Q (K:W.Frag)(T:String)(r:V→List V→Hp→VK→Prop)(to:TE):TE:=λσ H Q=>to σ H λx H1=>tyV K T x H1∧r x [] H1 Q
noncomputable def tBM (K:W.Frag)(T:String)(r:V→List V→Hp→VK→Prop)(to:TE)(t:TA):TE:=λσ H Q=>to σ H λx H1=>tyV K T x H1∧t σ H1 λxs H2=>r x xs H2 Q
variable {o e:Expr}{es:List Expr}{to:TE}{t:TA}{name:Str}{apos cpos:Pos}{T id:String}{r:V→List V→Hp→VK→Prop}
theorem Z4w (pa:PlainAttrs T)(slot:Slot T name id)(hty:typeOf (.builtin id)=pure (.type "method_descriptor"))(hm:MtR X id r)(ho:PE X o to)
 (hbase:attributeBase o name X.env (eval o X.env)=eval o X.env:=by rfl) (hline:(apos.endLine == cpos.line)=true:=by rfl):PE X (.Call (.Attribute o name apos) [] [] cpos) (Z7Q X.K T r to):=by
 intro pins s σ H Q I h;refine wpAny_Call_method0_late hbase hline (thn (ho pins s σ H _ I h) λv s1 zq=>?_);obtain⟨x,H1,I1,r1,ty,q1⟩:=zq;obtain⟨h1,h2⟩:=Z4v I1 r1 ty;exact⟨T,id,pa,slot,hty,h1,h2,Calls.callWith_builtin rfl (PySem.evalArgs_none (hm pins s1 σ H1 x [] v [] Q I1 r1 .nil q1))⟩
theorem Jx (pa:PlainAttrs T)(slot:Slot T name id)(hty:typeOf (.builtin id)=pure (.type "method_descriptor"))(hm:MtR X id r)(ho:PE X o to)(ha:PA X (e::es) t)
 (hbase:attributeBase o name X.env (eval o X.env)=eval o X.env:=by rfl)
 (hfew:((backTo cpos (starEach (e::es) X.env)).all (λx=>!x.1) && (backToKw cpos (keywordEach [] X.env)).all (λx=>x.1.isSome)
   && decide ((e::es).length + ([]:List Keyword).length + (if ([]:List Keyword).isEmpty then 0 else 1) < 30))=true:=by rfl)
 (hline:(apos.endLine == cpos.line)=true:=by rfl) (hs:starEach (e::es) X.env=(false,eval e X.env)::starEach es X.env:=by rfl) (hplain:(backTo cpos (starEach es X.env)).any (·.1)=false:=by rfl) :
 PE X (.Call (.Attribute o name apos) (e::es) [] cpos) (tBM X.K T r to t):=by
 intro pins s σ H Q I h;refine wpAny_Call_method_late hbase hfew hline rfl (thn (ho pins s σ H _ I h) λv s1 zq=>?_);obtain⟨x,H1,I1,r1,ty,q1⟩:=zq;obtain⟨h1,h2⟩:=Z4v I1 r1 ty;refine⟨T,id,pa,slot,hty,h1,h2,?_⟩;have hA:=ha cpos pins s1 σ H1 _ I1 q1;rw[hs] at hA ⊢;refine Calls.callWith_builtin (by show (false || (backTo cpos (starEach es X.env)).any (·.1))=false;rw[hplain]<;>rfl) (Calls.evalArgs_plain ?_);exact thn hA λus s2 ⟨vs,H2,I2,r2,q2⟩=>hm pins s2 σ H2 x vs v us Q I2 r1 r2 q2
end
noncomputable def MtM (X:Cx)(id:String)(r:V→List V→Hp→VK→Prop):Prop:=
 ∀ (pins:List (Addr×Obj)) (s:Shared) (σ:St) (H:Hp) (x:V) (xs:List V) (v:Value) (us:List Value) (Q:VK),Inv X pins σ H s→RelV x v→Vals xs us→r x xs H Q→
   wpAny (model X.prog X.w) X.A (call (.builtin id) (v::us)) (EP X pins σ Q) X.xe s
theorem Vals.one:∀ {x:V}{us:List Value},Vals [x] us→∃ u,us=[u]∧RelV x u
 | _,_,.cons r .nil=>⟨_,rfl,r⟩
theorem Vals.zero:∀ {us:List Value},Vals [] us→us=[]
 | _,.nil=>rfl
theorem Vals.dropLast {xs:List V}{us:List Value}(h:Vals xs us):Vals xs.dropLast us.dropLast:=by
 induction h with
 | nil=>exact .nil
 | cons r t ih=>
   cases t with
   | nil=>exact .nil
   | cons q t'=>exact .cons r ih
theorem Z4g {α:Type}(l:List α):l.eraseIdx (l.length - 1)=l.dropLast:=by
 induction l with
 | nil=>rfl
 | cons a r ih=>
   cases r with
   | nil=>rfl
   | cons b r=>
     have e:(a::b::r).length - 1=((b::r).length - 1) + 1:=by
      have h1:(a::b::r).length=r.length + 2:=rfl;have h2:(b::r).length=r.length + 1:=rfl;omega
     rw[e,List.eraseIdx_cons_succ,ih]
     all_goals rfl
section
variable {X:Cx}{pins:List (Addr×Obj)}{σ:St}{H:Hp}{s:Shared}{l b:Addr}{xs ys zs:List V}
theorem Inv.lset {its its':List Value}{n:Nat}{f:Array Value→Array Value}{t':Nat}(I:Inv X pins σ H s)(hH:H l=some (.lst xs))
 (e:s.heap.get? l=some { cls:=.type "list",data:=.seq its.toArray n }) (hf:f its.toArray=its'.toArray) (hv:Vals ys its') (hz:ys.length≤sizeLine) :
 Inv X pins σ (upd H l (.lst ys)) { s with heap:=s.heap.update l (Obj.mapSeq f),toks:=t' }:=by
 have q:=PySem.IsL.update e f;rw[hf] at q;refine I.write (x:=l) (e:=l) (by rw[hH];exact trivial) (.inl rfl) (λb' u hb hu=>(Heap.get?_update_other s.heap (Obj.mapSeq f) (Ne.symm hb)).trans hu) ⟨_,q⟩ ?_;exact⟨hz,its',_,hv,q⟩
theorem Inv.lnew {its:List Value}{t':Nat}(I:Inv X pins σ H s)(hv:Vals ys its)(hz:ys.length≤sizeLine) :
 Inv X pins σ (upd H s.heap.objs.size (.lst ys)) { s with heap:=s.heap.push { cls:=.type "list",data:=.seq its.toArray },toks:=t' }:=
 I.laid (λ_ _ q=>Heap.get?_push_of_some _ q) (Nat.le_refl _) ⟨hz,its,0,hv,Heap.get?_push_size _ rfl⟩
theorem Inv.fresh (I:Inv X pins σ H s):H s.heap.objs.size=none:=I.hok.fresh (Nat.le_refl _)
theorem Inv.lstM (I:Inv X pins σ H s)(hH:H l=some (.lst xs)):xs.length≤sizeLine∧∃ (its:List Value) (n:Nat),Vals xs its∧xs.length=its.length∧s.heap.get? l=some { cls:=.type "list",data:=.seq its.toArray n }:=by
 obtain⟨z,its,n,r,e⟩:=I.hok l _ hH;exact⟨z,its,n,r,r.length,e⟩
end
section
variable {X:Cx}
noncomputable def Z3y:V→List V→Hp→VK→Prop:=λx vs H Q=>∃ l xs y,x=.ref l∧vs=[y]∧H l=some (.lst xs)∧xs.length < sizeLine∧Q .non (upd H l (.lst (xs++[y])))
theorem Ya:MtM X "list.append" Z3y:=by
 intro pins s σ H x vs v us Q I rx rv h;obtain⟨l,xs,y,rfl,rfl,hH,hz,q⟩:=h;cases rx;obtain⟨u,rfl,ru⟩:=rv.one;obtain⟨z,its,n,r,hl,e⟩:=I.lstM hH;refine call_meets F.slot_list_append ⟨_,e,rfl⟩ F.entry_list_append (F.args_list_append_2 _ _) (PySem.list_append l its.toArray n u (by rw[List.size_toArray];omega)) ⟨e,?_⟩;refine⟨.non,_,I.lset (its':=its++[u]) hH e (by simp) (r.append (.cons ru .nil)) ?_,rfl,q⟩;rw[List.length_append,List.length_singleton];omega
noncomputable def Z8c:V→List V→Hp→VK→Prop:=λx vs H Q=>∃ l xs y,x=.ref l∧vs=[]∧H l=some (.lst xs)∧xs[xs.length - 1]? = some y∧Q y (upd H l (.lst xs.dropLast))
theorem Z4I:MtM X "list.pop" Z8c:=by
 intro pins s σ H x vs v us Q I rx rv h;obtain⟨l,xs,y,rfl,rfl,hH,hy,q⟩:=h;cases rx;have hus:=rv.zero;subst hus;obtain⟨z,its,n,r,hl,e⟩:=I.lstM hH;obtain⟨u,hu,ru⟩:=r.get hy;have hy':its.toArray[its.toArray.size - 1]? = some u:=by
  show its.toArray[its.length - 1]? = some u;rw[←Array.getElem?_toList,←hl];exact hu
 refine call_meets F.slot_list_pop ⟨_,e,rfl⟩ F.entry_list_pop (F.args_list_pop_1 _) (MeetsSeq.list_pop_last l its.toArray n u hy' (by rw[List.size_toArray];omega)) ⟨e,?_⟩;refine⟨y,_,I.lset (its':=its.dropLast) hH e ?_ r.dropLast ?_,ru,q⟩
 ·show its.toArray.eraseIdxIfInBounds (its.toArray.size - 1)=its.dropLast.toArray;rw[List.size_toArray,List.eraseIdxIfInBounds_toArray,Z4g]
 ·rw[List.length_dropLast];omega
noncomputable def Z8e:R2:=λx y H Q=>∃ l b xs zs,x=.ref l∧y=.ref b∧H l=some (.lst xs)∧H b=some (.lst zs)∧xs.length + zs.length≤sizeLine∧∀ p,H p=none→Q (.ref p) (upd H p (.lst (xs++zs)))
theorem Z4D:OpR X (binaryOp .Add) Z8e:=by
 intro pins s σ H x y v u Q I rx ry h;obtain⟨l,b,xs,zs,rfl,rfl,hH,hB,hz,q⟩:=h;cases rx;cases ry;obtain⟨z,its,n,r,hl,e⟩:=I.lstM hH;obtain⟨z2,its2,n2,r2,hl2,e2⟩:=I.lstM hB;refine PySem.P.add_list e e2 ?_ (by rw[List.size_toArray,List.size_toArray];omega);have ea:its.toArray++its2.toArray=(its++its2).toArray:=by simp
 rw[ea];exact⟨.ref _,_,I.lnew (t':=s.toks) (r.append r2) (by rw[List.length_append];omega),rfl,q _ I.fresh⟩
end
section
variable {prog:Program}{w:World}{A:Around}{E:Value→Shared→Prop}{s:Shared}
end
section
variable {X:Cx}
end
end L2
namespace Att
open PySem PySem.W PySem.Calls PyProof.Rows
theorem Z0O {P:Params}{h:Heap}:∀ (ns:List Int) (vs:List Value),WellAll P h vs (ns.map WData.int)→IntsAre vs ns:=by
 intro ns
 induction ns with
 | nil=>
   intro vs w;rw[List.map_nil] at w;cases w;exact .nil
 | cons n ns ih=>
   intro vs w;rw[List.map_cons] at w;cases w with
   | cons a b=>
     cases a;exact .cons _ _ (ih _ b)
theorem Z4S {l:OpenLaw}{n:Nat}(hn:l.most=some n){P:Params}{h:Heap}{args:List WData}{vals:List Value}
 (hpre:l.row.toRowW.claim.pre args=true) (hwl:WellAll P h vals args) :
 ∃ a vs ns,vals=[Value.ref a]∧args=[WData.list (ns.map WData.int)]∧h.get? a=some { cls:=.type "list",data:=.seq vs.toArray }∧IntsAre vs ns∧ns.length≤n:=by
 have hsh:WShape.hasAll [] args [.list .int]=true:=(pre_splitW hpre).1;have hc:l.pre.holds [] { args:=args }=true:=(pre_splitW hpre).2;obtain⟨d,r,rfl,h1,h2⟩:=hasAllW_cons hsh;obtain rfl:=hasAllW_nil h2;obtain⟨xs,rfl,h3⟩:=hasW_list h1;obtain⟨ns,rfl⟩:=items_int h3;have hlen:ns.length≤n:=by
  unfold OpenLaw.pre at hc;have h4:(WTm.not (.lt (.lit (.int (n:Int))) (.len (.arg 0)))).holds [] { args:=[.list (ns.map .int)] }=true:=by
   have h4:=(holds_andW hc).1;rw[hn] at h4;exact h4
  have h5:=condW_of h4 (w_not (w_lt w_lit (w_len_list (w_arg rfl))));rw[List.length_map] at h5;refine Nat.le_of_not_lt λq=>?_;have q':(n:Int) < ((ns.length:Nat):Int):=by omega
  first
   | (rw[decide_eq_true q'] at h5;exact absurd h5 (by decide))
   | (simp at h5;omega)
 cases hwl with
 | cons w1 w2=>
   cases w2;cases w1 with
   | list ho hall=>exact⟨_,_,ns,rfl,rfl,ho,Z0O ns _ hall,hlen⟩
theorem Z57 (l:OpenLaw)(args:List WData):l.row.toRowW.claim.post args (.bool true) args=true:=
 postW_of (r:=l.row.toRowW) (X:=(true == true))
  (show WShape.has [] (.bool true) .bool=true by first|rfl|decide|simp[WShape.has,WShape.arms,WShape.armsAll])
  (show (WTm.eq .res (.lit (.bool true))).value [] { args:=args,res:=some (.bool true),after:=args }=some (.bool (true == true)) from w_eq_bool (w_res rfl) w_lit) rfl
theorem attach_call {l:OpenLaw}{n:Nat}{q:Program}{loose:List Str}{XP:(Str→Option Value)→Heap→Prop}{YP:World→Heap→Prop}{d:DefRec}
 (hn:l.most=some n) (hdf:d.params.defaults=[])
 (call:∀ (w:World) (s₀ s₁:Shared) (mg mb:Str→Option Value) (fa:Addr) (o:Obj) (pm cd doc:Value) (a:Addr) (vs:List Value) (ns:List Int),
   Ground q loose [] XP w s₀ mg mb s₁.heap→YP w s₁.heap→
   s₁.heap.get? fa=some o→o.data=.func (docDef d.name d.params d.body d.scope pm cd doc)→s₁.heap.CodeRec cd d.name→mg d.name=some (.ref fa)→
   s₁.heap.get? a=some { cls:=.type "list",data:=.seq vs.toArray }→IntsAre vs ns→ns.length≤n→s₁.gens = #[]→
   codeAny (model l.prog w) callerA (.call (.ref fa) ⟨[.ref a],[]⟩) (λr s'=>r=.ok (.ret (.bool true))∧OldK s₁.heap s'.heap∧s'.os=s₁.os∧AllBare s'.gens) s₁) :
 WalkO q loose XP YP l.row.toRowW d [] (λf vs=>PySem.call f vs):=by
 intro w s₀ s₁ mg mb G Y fa o pm cd doc dV kV ho hd hcd hD hmg hg args vals as hpre hlay hrd hwl hlo;obtain rfl:dV=.none:=Dflts.none hD hdf;obtain rfl:kV=.none:=Dflts.noKw hD;obtain⟨a,vs,ns,rfl,rfl,hobj,hints,hlen⟩:=Z4S hn hpre hwl;refine enter_call (codeAny_mono (call w s₀ s₁ mg mb fa o pm cd doc a vs ns G Y ho (fd_plain hd) hcd hmg hobj hints hlen hg) λr s' hq=>?_);obtain⟨rfl,h2,h3,h4⟩:=hq;exact⟨.inl ⟨.bool true,.bool true,[],rfl,λ_=>rfl,.bool true,Z57 l _,λ_=>⟨List.Pairwise.nil,λ_ hm=>(nomatch hm)⟩⟩,h2,h3,h4⟩
section
variable {prog:Program}{w:World}{A:Around}{E:Value→Shared→Prop}{s:Shared}{K:Frag}
end
end Att
namespace L2
open PySem PySem.Spec PyProof.Rows
theorem Z1y:∀ {vs:List Value}{ns:List Int},IntsAre vs ns→Vals (ns.map V.int) vs
 | _,_,.nil=>.nil
 | _,_,.cons n t h=>.cons ⟨t,rfl⟩ (Z1y h)
noncomputable def Z5D (H:Hp):Prop:=∀ b,H b=none∨∃ o xs,H b=some (.frz o (.lst xs))
theorem Z5C {P:Program}{w:World}{K:W.Frag}{mg mb:Str→Option Value}{CX:CXT}{k:Nat}{fa a:Addr}{fd:FuncData}{x:Str}{sp:Sp}{s₁:Shared}{vs:List Value}{ns:List Int}
 (KX:K.In s₁.heap) (hns:s₁.heap.Ns mainGlobals mg) (hb:s₁.heap.Ns builtinsNs mb) (hbb:∀ x:Str,x≠"__name__"→mb x=bootBuiltins x) (hlim:s₁.heap.NoLimit) (hg:s₁.gens = #[])
 (ha:s₁.heap.get? a=some { cls:=.type "list",data:=.seq vs.toArray }) (hi:IntsAre vs ns) (hl:ns.length≤sizeLine) (hr:Room k callerA)
 (F:∀ base:Heap,K.In base→base.Ns mainGlobals mg→FnOk P w K mg base CX k fa fd [x] sp) (hbind:∀ (s:Shared) (u:Value),BindsTo s fd ⟨[u],[]⟩ [(x,u)])
 (hsp:∀ H:Hp,Z5D H→SqL K H a (ns.map V.int)→sp [.ref a] H (λv _=>v=.bl true) λ_ _ _=>False)
 (hCX:∀ H e s',CX [] H s₁ (λ_ _ _=>False) e s'→False) :
 codeAny (model P w) callerA (.call (.ref fa) ⟨[.ref a],[]⟩) (λr s'=>r=.ok (.ret (.bool true))∧OldK s₁.heap s'.heap∧s'.os=s₁.os∧AllBare s'.gens) s₁:=by
 have rv:=Z1y hi;have lenV:=hi.length;have core:∀ H:Hp,Z5D H→SqL K H a (ns.map V.int)→HOk P w H s₁.heap→(∀ b,H b≠none→b=a)→(H a≠none→K.lookup a=none)→
  codeAny (model P w) callerA (.call (.ref fa) ⟨[.ref a],[]⟩) (λr s'=>r=.ok (.ret (.bool true))∧OldK s₁.heap s'.heap∧s'.os=s₁.os∧AllBare s'.gens) s₁:=by
  intro H hO hS hok hA hK;have base_of:∀ {b:Addr}{o:Obj},s₁.heap.get? b=some o→H b=none→(Jq s₁.heap H).get? b=some o:=λe n=>Z5V e n;have noA:∀ {b:Addr}{o:Obj}{es:Array DictEntry}{ep:Nat},s₁.heap.get? b=some o→o.data=.dict es ep→H b=none:=fun {b o es ep} e d=>by
   cases q:H b with
   | none=>rfl
   | some u=>
     have e':b=a:=hA b (by rw[q];simp);subst e';rw[ha] at e;cases e;have d':Data.seq vs.toArray _=Data.dict es ep:=d;cases d'
  have nsK:∀ {b:Addr}{m:Str→Option Value},s₁.heap.Ns b m→(Jq s₁.heap H).Ns b m:=fun {b m} ⟨o,es,ep,e,d,r⟩=>⟨o,es,ep,base_of e (noA e d),d,r⟩
  have hKb:K.In (Jq s₁.heap H):=λb o e=>base_of (KX b o e) (by
   cases q:H b with
   | none=>rfl
   | some u=>
     have e':b=a:=hA b (by rw[q];simp);subst e';rw[hK (by rw[q];simp)] at e;cases e)
  have hM:Mod K mg (Jq s₁.heap H):=⟨hKb,nsK hns,⟨mb,nsK hb,hbb⟩,let ⟨mc,h1,h2⟩:=hlim;⟨mc,nsK h1,h2⟩⟩;have e0:Env0 P w K mg (Jq s₁.heap H) callerA [] s₁ H:=⟨rfl,hM,λb o e=>Z6R e,Nat.le_of_eq (Z4u _ _),trivial,λb hb=>absurd (show b∈([]:List Addr) from hb) (by simp),hok,.of_eq hg⟩;refine codeAny_mono ((F _ hKb (nsK hns)).run callerA [] s₁ H ⟨[.ref a],[]⟩ [.ref a] [.ref a] _ _ hr e0 (hbind s₁ (.ref a)) (.cons rfl .nil) (hsp H hO hS)) λr s' h=>?_;cases r with
  | error e=>exact (hCX H e s' h).elim
  | ok fl=>
    cases fl with
    | next=>exact False.elim h
    | brk=>exact False.elim h
    | cont=>exact False.elim h
    | ret u=>
      obtain⟨v,H',os,bare,un,hok',r',q⟩:=h;have q':v=.bl true:=q;subst q';obtain rfl:u=Value.bool true:=r';refine⟨rfl,OldK.of_keep λb o e=>?_,os,bare⟩;cases q:H b with
      | none=>exact un.keep b o e q (by intro z;exact absurd (show b∈([]:List Addr) from z) (by simp)) (by simp)
      | some u=>
        rcases hO b with z|⟨ob,xs,z⟩
        ·rw[q] at z;cases z
        ·have z2:=un.frzs b ob _ z;obtain⟨e1,_⟩:=hok b _ z;obtain⟨e2,_⟩:=hok' b _ z2;rw[e] at e1;cases e1;exact e2
 cases hk:K.lookup a with
 | some o=>
   have e:=KX a o hk;rw[ha] at e;cases e;refine core (λ_=>none) (λ_=>.inl rfl) (.inr ⟨_,vs.toArray,_,hk,rfl,rfl,rfl,by rw[List.size_toArray,lenV];exact hl,by simpa using rv⟩) (λb u z=>by have z':(none:Option HO)=some u:=z;cases z') (λb z=>absurd rfl z) λz=>absurd rfl z
 | none=>
   refine core (λb=>if b=a then some (.frz { cls:=.type "list",data:=.seq vs.toArray } (.lst (ns.map V.int))) else none) (λb=>?_) (.inl (.inr ⟨{ cls:=.type "list",data:=.seq vs.toArray },if_pos rfl⟩)) (λb u z=>?_) (λb z=>?_) λ_=>hk
   ·by_cases hb:b=a
    ·exact .inr ⟨_,_,if_pos hb⟩
    ·exact .inl (if_neg hb)
   ·by_cases hb:b=a
    ·have z':=(if_pos hb).symm.trans z;cases z';subst hb;exact⟨ha,by rw[List.length_map];exact hl,vs,_,rv,ha⟩
    ·have z':=(if_neg hb).symm.trans z;cases z'
   ·by_cases hb:b=a
    ·exact hb
    ·exact absurd (if_neg hb) z
theorem walk_of {l:W.OpenLaw}{n k:Nat}{q:Program}{loose:List Str}{XP:(Str→Option Value)→Heap→Prop}{YP:World→Heap→Prop}{d:DefRec}{K:Params→W.Frag}{CX:World→CXT}{sp:World→Sp}{x:Str}
 (hn:l.most=some n) (hn2:n≤sizeLine) (hdf:d.params.defaults=[]) (hr:Room k callerA)
 (hY:∀ (w:World) (h:Heap),YP w h→(K w.params).In h)
 (F:∀ (w:World) (mg:Str→Option Value) (fa:Addr) (h:Heap),(K w.params).In h→h.Ns mainGlobals mg→mg d.name=some (.ref fa)→
   ∃ fd:FuncData,(∀ (s:Shared) (u:Value),BindsTo s fd ⟨[u],[]⟩ [(x,u)])∧
     ∀ base:Heap,(K w.params).In base→base.Ns mainGlobals mg→FnOk l.prog w (K w.params) mg base (CX w) k fa fd [x] (sp w))
 (hsp:∀ (w:World) (H:Hp) (a:Addr) (ns:List Int),ns.length≤n→Z5D H→SqL (K w.params) H a (ns.map V.int)→sp w [.ref a] H (λv _=>v=.bl true) λ_ _ _=>False)
 (hCX:∀ (w:World) (H:Hp) (s:Shared) (e:Value) (s':Shared),CX w [] H s (λ_ _ _=>False) e s'→False) :
 W.WalkO q loose XP YP l.row.toRowW d [] (λf vs=>PySem.call f vs):=by
 refine Att.attach_call hn hdf λw s₀ s₁ mg mb fa o pm cd doc a vs ns G Y ho hd hcd hmg hobj hints hlen hg=>?_;have KX:=hY w _ Y;obtain⟨fd,hb,hF⟩:=F w mg fa _ KX G.T.g hmg;exact Z5C KX G.T.g G.T.b G.T.builtins G.T.nolimit hg hobj hints (Nat.le_trans hlen hn2) hr hF hb (λH hO hS=>hsp w H a ns hlen hO hS) λH e s'=>hCX w H s₁ e s'
noncomputable def Zz (s:Stmt)(j:Nat):Stmt:=match s with
 | .ClassDef _ _ _ body _ _ _ _ _ _ _=>body.getD j (.Pass ⟨0,0,0,0⟩)
 | _=>.Pass ⟨0,0,0,0⟩
noncomputable def Zc (s:Stmt):Arguments:=match s with
 | .FunctionDef _ a _ _ _ _ _ _ _ _=>a
 | _=>{ posonlyargs:=[],args:=[],vararg:=none,kwonlyargs:=[],kw_defaults:=[],kwarg:=none,defaults:=[] }
noncomputable def Zb (s:Stmt):List Stmt:=match s with
 | .FunctionDef _ _ b _ _ _ _ _ _ _=>b
 | _=>[]
noncomputable def Z3 (s:Stmt):Scope:=match s with
 | .FunctionDef _ _ _ _ _ _ sc _ _ _=>sc
 | _=>{ kind:=.function,names:=[],isGenerator:=false,isCoroutine:=false }
noncomputable abbrev CX0:CXT:=λ_ _ _ _ _ _=>False
noncomputable abbrev E0:XK:=λ_ _ _=>False
theorem Z9 {X:Cx}:X3 CX0 X E0:=λ_ _ _ _ _ _ _ h=>h.elim
structure Fun (K:W.Frag)(x qual:Str)(st:Stmt)(f:Addr)(fd:FuncData):Prop where
 ex:∃ (oc:Value) (od:Option Addr) (kV doc pm:Value) (an:Option Addr) (cdv ct:Value) (osl:Array (Option Value)),
  fd=W.fnOf x qual (Zc st) (Zb st) (Z3 st) .none kV doc pm an cdv ct∧K.lookup f=some ⟨oc,od,.func fd,osl⟩∧W.codeIn K cdv qual=true
 kp:W.keepIn K (.ref f)=true
section
variable {P:Program}{w:World}{K:W.Frag}{mg:Str→Option Value}{base:Heap}
theorem Fun.ok {x qual:Str}{st:Stmt}{f:Addr}{fd:FuncData}{N ps:List Str}{k:Nat}{sp:Sp}(F:Fun K x qual st f fd)(S:FnScope N ps (Z3 st))(len:∀ vs H Q E,sp vs H Q E→vs.length=ps.length)
 (hbody:∀ (cdv:Value) (A:Around) (outer:List Env) (s:Shared) (H:Hp) (vs:List V) (Q:VK) (E:XK),Room k (A.deeper (envOfC qual (Z3 st) s.heap.objs.size f cdv))→sp vs H Q E→
   ∃ t,PSs (Xv CX0 P w K mg base N qual (Z3 st) f cdv A outer s H E).nox (Zb st) t∧t { nx:=λ_ H'=>Q .non H',rt:=Q } (start N vs) H):FnOk P w K mg base CX0 (k + 1) f fd ps sp:=by
 obtain⟨oc,od,kV,doc,pm,an,cdv,ct,osl,rfl,lk,hcd⟩:=F.ex;refine Z6q lk hcd S len λA outer s H vs Q E hr hsp=>?_;obtain⟨t,h,q⟩:=hbody cdv A outer s H vs Q E hr hsp;exact⟨t,h.nox,q⟩
theorem Fun.binds {x qual:Str}{st:Stmt}{f:Addr}{fd:FuncData}{ps:List Str}(F:Fun K x qual st f fd)
 (h:∀ (kV doc pm:Value) (an:Option Addr) (cdv ct:Value) (us:List Value),us.length=ps.length→bindArgs (W.fnOf x qual (Zc st) (Zb st) (Z3 st) .none kV doc pm an cdv ct) ⟨us,[]⟩=pure (ps.zip us)):Binds K fd ps []:=by
 obtain⟨oc,od,kV,doc,pm,an,cdv,ct,osl,rfl,lk,hcd⟩:=F.ex;exact .all (h kV doc pm an cdv ct)
theorem Zf {x qual:Str}{st:Stmt}{f:Addr}{oc:Value}{od an:Option Addr}{osl:Array (Option Value)}{kV doc pm cdv ct:Value}(l:K.lookup f=some ⟨oc,od,.func (W.fnOf x qual (Zc st) (Zb st) (Z3 st) .none kV doc pm an cdv ct),osl⟩)
 (c:W.codeIn K cdv qual=true) (k:W.keepIn K (.ref f)=true):Fun K x qual st f (W.fnOf x qual (Zc st) (Zb st) (Z3 st) .none kV doc pm an cdv ct):=⟨⟨oc,od,kV,doc,pm,an,cdv,ct,osl,rfl,l,c⟩,k⟩
end
theorem Z1s {n:Nat}(h:n≤1000):n < sizeLine:=Nat.lt_of_le_of_lt h (by decide)
section
variable {X:Cx}
theorem pv (i:Nat){x:Str}{pos:Pos}(hN:X.N[i]? = some x:=by rfl)(hv:Vis X.env.scope x:=by first|exact Or.inl rfl|exact Or.inr (Or.inl rfl)|exact Or.inr (Or.inr rfl))(hd:(x == ("__debug__" : Str))=false:=by decide)
 (hcd:(x == ("__classdict__" : Str))=false:=by decide):PE X (.Name x pos) (XX i):=Z7s hN hv hd hcd
end
theorem Z0A {c A B:Prop}[Decidable c](h1:c→A)(h2:¬ c→B):if c then A else B:=by
 by_cases h:c
 ·rw[if_pos h];exact h1 h
 ·rw[if_neg h];exact h2 h
noncomputable def Same (H H':Hp):Prop:=∀ b o,H b=some o→H' b=some o
theorem Same.refl (H:Hp):Same H H:=λ_ _ h=>h
theorem Same.trans {H H1 H2:Hp}(a:Same H H1)(b:Same H1 H2):Same H H2:=λc o h=>b c o (a c o h)
theorem Same.free {H H':Hp}(e:Same H H'){l:Addr}(h:H' l=Option.none):H l=Option.none:=by
 cases q:H l with
 | none=>rfl
 | some o=>
   rw[e l o q] at h;cases h
noncomputable def YJ (env:Env)(cs:List (Str×Addr))(p:Str×NameKind):List (Str×Addr):=
 if (p.2 == NameKind.free)=true then (match env.cells.lookup p.1 with|some c=>(p.1,c)::cs|none=>cs) else cs
noncomputable def Xs (scope:Scope)(env:Env):List (Str×Addr):=scope.names.foldl (YJ env) []
theorem Ju {env:Env}:∀ (ns:List (Str×NameKind)) (cs:List (Str×Addr)),(∀ p∈ns,p.2=.free→∃ c,env.cells.lookup p.1=some c)→
 (forIn ns cs (λ(p:Str×NameKind) (r:List (Str×Addr))=>(if (p.2 == NameKind.free)=true then do
   let a←cellOf env p.1
   pure (ForInStep.yield ((p.1,a)::r)) else pure (ForInStep.yield r):Sem (ForInStep (List (Str×Addr))))))=(pure (ns.foldl (YJ env) cs):Sem (List (Str×Addr)))
 | [],cs,_=>rfl
 | p::ns,cs,h=>by
   rw[List.forIn_cons,List.foldl_cons]
   by_cases hk:(p.2 == NameKind.free)=true
   ·obtain⟨c,hc⟩:=h p List.mem_cons_self (by simpa using hk);have e:YJ env cs p=(p.1,c)::cs:=by unfold YJ;rw[if_pos hk,hc]
    rw[if_pos hk,e];have e2:cellOf env p.1=pure c:=by unfold cellOf;rw[hc]
    rw[e2];exact Ju ns _ λq hq=>h q (List.mem_cons_of_mem _ hq)
   ·have e:YJ env cs p=cs:=by unfold YJ;rw[if_neg hk]
    rw[if_neg hk,e];exact Ju ns _ λq hq=>h q (List.mem_cons_of_mem _ hq)
theorem Xt {scope:Scope}{env:Env}(h:∀ p∈scope.names,p.2=.free→∃ c,env.cells.lookup p.1=some c):closureFor scope env=pure (Xs scope env):=by
 have e:=Ju scope.names [] h;unfold closureFor Xs;exact (congrArg (λm=>m >>= λs=>pure s) e).trans rfl
theorem X5 {env:Env}:∀ (ns:List (Str×NameKind)) (cs:List (Str×Addr)),(∀ x c,cs.lookup x=some c→env.cells.lookup x=some c)→
 ∀ x c,(ns.foldl (YJ env) cs).lookup x=some c→env.cells.lookup x=some c
 | [],cs,h=>h
 | p::ns,cs,h=>by
   refine X5 ns _ λx c q=>?_;unfold YJ at q
   by_cases hk:(p.2 == NameKind.free)=true
   ·rw[if_pos hk] at q;cases e:env.cells.lookup p.1 with
    | none=>rw[e] at q;exact h x c q
    | some d=>
      rw[e] at q;simp only[List.lookup_cons] at q
      by_cases hx:(x == p.1)=true
      ·rw[hx] at q;have hx':x=p.1:=by simpa using hx
       rw[hx',e];exact q
      ·have hx':(x == p.1)=false:=by simpa using hx
       rw[hx'] at q;exact h x c q
   ·rw[if_neg hk] at q;exact h x c q
theorem Z1A {env:Env}:∀ (ns:List (Str×NameKind)) (cs:List (Str×Addr)),(∀ x c,cs.lookup x=some c→env.cells.lookup x=some c)→
 ∀ x c,cs.lookup x=some c→(ns.foldl (YJ env) cs).lookup x=some c
 | [],cs,_,x,c,q=>q
 | p::ns,cs,h,x,c,q=>by
   have hsub:∀ y d,(YJ env cs p).lookup y=some d→env.cells.lookup y=some d:=by
    have:=X5 (env:=env) [p] cs h;exact this
   refine Z1A ns _ hsub x c ?_;unfold YJ
   by_cases hk:(p.2 == NameKind.free)=true
   ·rw[if_pos hk];cases e:env.cells.lookup p.1 with
    | none=>exact q
    | some d=>
      simp only[List.lookup_cons]
      by_cases hx:(x == p.1)=true
      ·rw[hx];have hx':x=p.1:=by simpa using hx
       have:=h x c q;rw[hx',e] at this;exact this
      ·have hx':(x == p.1)=false:=by simpa using hx
       rw[hx'];exact q
   ·rw[if_neg hk];exact q
theorem Z0c {env:Env}{x:Str}{c:Addr}(hc:env.cells.lookup x=some c):∀ (ns:List (Str×NameKind)) (cs:List (Str×Addr)),(∀ x c,cs.lookup x=some c→env.cells.lookup x=some c)→
 (x,NameKind.free)∈ns→(ns.foldl (YJ env) cs).lookup x=some c
 | [],_,_,h=>nomatch h
 | p::ns,cs,h,hm=>by
   have hsub:∀ y d,(YJ env cs p).lookup y=some d→env.cells.lookup y=some d:=X5 (env:=env) [p] cs h
   rcases List.mem_cons.mp hm with e|hm
   ·subst e;refine Z1A ns _ hsub x c ?_;unfold YJ;rw[if_pos (by rfl),hc];simp[List.lookup_cons]
   ·exact Z0c hc ns _ hsub hm
noncomputable def ZP (X:Cx)(scope:Scope)(N:List Str)(C:Addr)(s:Shared)(H:Hp)(fp:List Addr):Cx where
 prog:=X.prog
 w:=X.w
 K:=X.K
 mg:=X.mg
 base:=X.base
 A:=X.A
 N:=N
 s₀:=s
 H₀:=H
 env:=compEnvC scope (Xs scope X.env) C X.env
 outer:=X.stack
 stack:=X.stack
 ex:=fp
 calm:=X.calm
 fn:=λ_=>false
 pn:=[]
 xe:=λ_ _=>False
noncomputable def blk (fr:List (Option Nat))(σ:St):St:=fr.map λo=>match o with
 | none=>none
 | some i=>(σ[i]?).getD none
structure BlkOk (X:Cx)(scope:Scope)(N:List Str)(fr:List (Option Nat)):Prop where
 kind:scope.kind=.function
 nd:N.Nodup
 len:fr.length=N.length
 nocell:∀ p∈scope.names,p.2≠.cell
 loc:∀ p∈scope.names,p.2=.local→scope.names.lookup p.1=some .local
 free:∀ p∈scope.names,p.2=.free→X.env.kindOf p.1=some .cell∨X.env.kindOf p.1=some .free
 out:∀ (j i:Nat) (x:Str),N[j]? = some x→fr[j]? = some (some i)→X.N[i]? = some x∧(x,NameKind.free)∈scope.names∧((relabel scope X.env).names.lookup x=some .cell∨(relabel scope X.env).names.lookup x=some .free)
theorem X7 {α:Type}{x n:Str}{v:α}{r:List (Str×α)}:((n,v)::r).lookup x=if x=n then some v else r.lookup x:=by
 rw[List.lookup_cons]
 by_cases hx:x=n
 ·rw[if_pos hx,show (x == n)=true by simpa using hx]
 ·rw[if_neg hx,show (x == n)=false by simpa using hx]
theorem JB {env:Env}:∀ {ns:List (Str×NameKind)}{x:Str}{k:NameKind},
 (ns.map λ(n,k)=>if (k == NameKind.free && env.scope.kind == .function && env.kindOf n == some .cell) then (n,NameKind.cell) else (n,k)).lookup x=some k→(k=.cell∨k=.free)→
 (∀ p∈ns,p.2≠.cell)→(x,NameKind.free)∈ns
 | [],x,k,h,_,_=>by simp at h
 | (n,q)::r,x,k,h,hk,hc=>by
   have ih:=λh'=>@JB env r x k h' hk λp hp=>hc p (List.mem_cons_of_mem _ hp);have h':List.lookup x ((if (q == NameKind.free && env.scope.kind == .function && env.kindOf n == some .cell)=true then (n,NameKind.cell) else (n,q))::(r.map λ(n,k)=>if (k == NameKind.free && env.scope.kind == .function && env.kindOf n == some .cell) then (n,NameKind.cell) else (n,k)))=some k:=h
   by_cases c:(q == NameKind.free && env.scope.kind == .function && env.kindOf n == some .cell)=true
   ·rw[if_pos c,X7] at h';have hq:q=.free:=by
     simp only[Bool.and_eq_true,beq_iff_eq] at c;exact c.1.1
    by_cases hx:x=n
    ·subst hx;subst hq;exact List.mem_cons_self
    ·rw[if_neg hx] at h';exact List.mem_cons_of_mem _ (ih h')
   ·rw[if_neg c,X7] at h'
    by_cases hx:x=n
    ·rw[if_pos hx] at h';have hq:q=k:=Option.some.inj h';subst hx;subst hq
     rcases hk with e|e
     ·exact absurd e (hc _ List.mem_cons_self)
     ·rw[e];exact List.mem_cons_self
    ·rw[if_neg hx] at h';exact List.mem_cons_of_mem _ (ih h')
section
variable {X:Cx}{pins:List (Addr×Obj)}{σ:St}{H:Hp}{s:Shared}{scope:Scope}{N:List Str}{fr:List (Option Nat)}{fp:List Addr}{D:Addr}
theorem Inv.block (I:Inv X pins σ H s)(B:BlkOk X scope N fr)(hfp:∀ b∈fp,X4 X pins H b)(hlt:∀ b∈fp,b < s.heap.objs.size){h1:Heap}{C:Addr}{m:Str→Option Value}{t':Nat}
 (hD:s.heap.objs.size≤D) (hC:s.heap.objs.size≤C) (hDC:D≠C) (hk:∀ b o,s.heap.get? b=some o→h1.get? b=some o) (hn:h1.Ns C m) (hl:h1.get? D=some { cls:=.type "list",data:=.seq #[] 0 }) :
 Inv (ZP X scope N C s H fp) [] (blk fr σ) (upd H D (.lst [])) { s with heap:=h1,toks:=t' }:=by
 have sub:=X5 (env:=X.env) scope.names [] (λ_ _ q=>by simp at q);have hHD:H D=none:=I.hok.fresh hD;have hHC:H C=none:=I.hok.fresh hC;have inFs:∀ b∈frs X.stack,∃ o,s.heap.get? b=some o:=λb hb=>by
  obtain⟨_,o,ho,_⟩:=I.stack.mem hb;exact⟨o,ho⟩
 refine⟨⟨I.ok.mod,B.kind,I.ok.glob,I.ok.blt,hC,?_,?_,?_,I.ok.hd,I.ok.frames,.inl rfl,?_,I.bs,Nat.le_trans I.ok.bsz I.sz,?_,?_,I.stack,I.stkFree⟩,rfl,I.bare,?_,?_,?_,?_,?_,?_,?_,?_⟩
 ·intro x y c e1 e2;exact I.ok.inj x y c (sub x c e1) (sub y c e2)
 ·intro x hx;have hx':∃ k,(relabel scope X.env).names.lookup x=some k∧(k=.cell∨k=.free):=by
   rcases hx with h|h
   ·exact⟨_,h,.inl rfl⟩
   ·exact⟨_,h,.inr rfl⟩
  obtain⟨k,hk1,hk2⟩:=hx';have hm:=JB hk1 hk2 B.nocell;obtain⟨c,hc⟩:=I.ok.has x (B.free _ hm rfl);exact⟨c,Z0c hc scope.names [] (λ_ _ q=>by simp at q) hm⟩
 ·intro x c e;exact nomatch e
 ·intro b hb;exact⟨Nat.ne_of_lt (Nat.lt_of_lt_of_le (hlt b hb) hC),λx c e=>(hfp b hb).2.2.2.2.1 x c (sub x c e)⟩
 ·intro b o e hb
  rcases (hfp b hb).2.2.2.1 with z|z
  ·exact I.ok.noex b o e z
  ·exact absurd (Nat.lt_of_lt_of_le (Nat.lt_of_lt_of_le (Heap.lt_size e) I.ok.bsz) z) (Nat.lt_irrefl _)
 ·intro b hb hm
  rcases List.mem_cons.mp (I.stkSub b hm) with z|z
  ·exact (hfp b hb).2.1 z
  ·exact (hfp b hb).2.2.1 z
 ·exact Un.laid hk hD hHD
 ·refine⟨m,hn,λj x v e1 e2 e3=>?_⟩;unfold blk at e2;rw[List.getElem?_map] at e2;cases ef:fr[j]? with
  | none=>rw[ef] at e2;cases e2
  | some o=>
    cases o with
    | none=>rw[ef] at e2;simp at e2
    | some i=>
      rw[ef] at e2;have e2':σ[i]? = some (some v):=by
       cases eσ:σ[i]? with
       | none=>simp[eσ] at e2
       | some o=>simp[eσ] at e2;rw[e2]
      obtain⟨hN,hm,hk'⟩:=B.out j i x e1 ef;obtain⟨m0,_,hl0⟩:=I.loc;have hkx:=B.free _ hm rfl;have vis:Vis X.env.scope x:=by
       rcases hkx with z|z
       ·exact .inr (.inl z)
       ·exact .inr (.inr z)
      obtain⟨u,r,l⟩:=hl0 i x v hN e2' vis;refine⟨u,r,.inr ⟨hk',?_⟩⟩
      rcases l with⟨kl,_⟩|⟨_,c,hc,hcell⟩
      ·rcases hkx with z|z<;>(rw[kl] at z;cases z)
      ·exact⟨c,Z0c hc scope.names [] (λ_ _ q=>by simp at q) hm,hcell.keeps hk⟩
 ·intro x c e;obtain⟨v,hv⟩:=I.cell x c (sub x c e);exact⟨v,hv.keeps hk⟩
 ·show upd H D _ C=none;rw[Z2 (Ne.symm hDC)];exact hHC
 ·intro x c e;have hc:=I.freeC x c (sub x c e);obtain⟨v,hv⟩:=I.cell x c (sub x c e);show upd H D _ c=none;rw[Z2 (Nat.ne_of_lt (Nat.lt_of_lt_of_le hv.lt hD))];exact hc
 ·intro p hp;exact absurd (show p∈([]:List (Addr×Obj)) from hp) (by simp)
 ·exact I.hok.laid hk hD ⟨Nat.zero_le _,[],0,.nil,by simpa using hl⟩
 ·show (blk fr σ).length=N.length;unfold blk;rw[List.length_map];exact B.len
theorem Inv.unblock {C:Addr}{τ:St}{H':Hp}{s':Shared}{h':Heap}(I:Inv X pins σ H s)(hfp:∀ b∈fp,X4 X pins H b)(hC:s.heap.objs.size≤C)
 (J:Inv (ZP X scope N C s H fp) [] τ H' s') (hs:Heap.SameBut C s'.heap h'):Inv X pins σ H' { s' with heap:=h' }:=by
 have hHC:H' C=none:=J.free;have ne:∀ b o,s.heap.get? b=some o→b≠C:=λb o e=>Nat.ne_of_lt (Nat.lt_of_lt_of_le (Heap.lt_size e) hC);have u:=J.base;refine I.call' (s':={ s' with heap:=h' }) (ch:=fp) J.os ⟨λb o e n hb hx=>?_,λb o e n hb hx=>?_,u.free,λb o e hx=>?_,u.tups,u.frzs,u.tbls⟩ ?_ J.bare ?_
 ·exact (hs.2 b (ne b o e)).trans (u.keep b o e n hb hx)
 ·obtain⟨sl,q⟩:=u.slot b o e n hb hx;exact⟨sl,(hs.2 b (ne b o e)).trans q⟩
 ·obtain⟨o',q⟩:=u.there b o e hx;exact⟨o',(hs.2 b (ne b o e)).trans q⟩
 ·intro b ob e;refine (J.hok b ob e).stay (λc w' hc q=>(hs.2 c ?_).trans q) (λ_ q=>q) λ_ _ q=>q;rintro rfl
  rcases hc with rfl|hc
  ·rw[hHC] at e;cases e
  ·rw[hHC] at hc;cases hc
 ·intro b hb;obtain⟨_,h2,h3,h4,h5,h6⟩:=hfp b hb;exact⟨h4,h2,h5,h6⟩
end
noncomputable def LC (J:It)(D:Addr)(τ0:St)(H1:Hp)(g:TG)(te:TE)(Q:VK):Prop:=∃ W:Nat→Nat→List V→St→Hp→Prop,
 (∃ m,W 0 m [] τ0 (upd H1 D (.lst [])))∧∀ i m ys τ H2,W i m ys τ H2→H2 D=some (.lst ys)∧
   ((J.stop i H2∧Q (.ref D) H2)∨(J.go i H2∧ys.length < sizeLine∧∃ N:List V→St→Hp→Prop,(∀ zs τ' H',N zs τ' H'→∃ m',m' < m∧W (i + 1) m' zs τ' H')∧∀ x H3,J.yld i H2 x H3→g x τ H3 λτ4 H4=>te τ4 H4 λy H5=>H5 D=some (.lst ys)∧N (ys++[y]) τ4 (upd H5 D (.lst (ys++[y])))))
noncomputable def tLC (fr:List (Option Nat))(wi:TI)(g:TG)(te:TE):TE:=λσ H Q=>wi σ H λJ H1=>∀ D,H1 D=none→LC J D (blk fr σ) H1 g te Q
theorem Z0y {X:Cx}{elt target iter:Expr}{scope:Scope}{pos:Pos}{N:List Str}{fr:List (Option Nat)}{wi:TI}{g:TG}{te:TE}(hc:X.calm=true)(B:BlkOk X scope N fr)(hi:PI X target iter wi)
 (hg:∀ C s H fp,PG (ZP X scope N C s H fp) target g) (he:∀ C s H fp,PE (ZP X scope N C s H fp) elt te)
 (hs:∀ x,foldedSetIterable iter X.env x=pure x:=by intro _;rfl):PE X (.ListComp elt [⟨target,iter,[],0⟩] scope pos) (tLC fr wi g te):=by
 intro pins s σ H Q I h;rw[eval_ListComp];refine wpAny_comprehension_free (use:=none) (g:=⟨target,iter,[],0⟩) (gs:=[]) rfl hs (Xt λp hp hk=>I.ok.has p.1 (B.free p hp hk)) B.kind B.loc (thn (hi pins s σ H _ I h) λv s1 h1=>thn h1 λitv s2 h2=>?_);obtain⟨it,fp,tn,J,H2,e,I2,T,st2,f2,rd⟩:=h2;subst e;obtain⟨W,⟨m0,w0⟩,turn⟩:=rd s2.heap.objs.size (I2.hok.fresh (Nat.le_refl _));refine wpAny_newObj_type (hd:=by size_fits) (wpAny_newFunctionEnv B.nocell (by intro y hy;simp at hy) (λh₁ hns₁ hsb₁=>?_) B.kind);dsimp only at hns₁ hsb₁ ⊢;generalize hH2:s2.heap.push { cls:=.type "list",dict:=none,data:=.seq ([]:List Value).toArray }=G2 at hns₁ hsb₁ ⊢;have hC:G2.objs.size=s2.heap.objs.size + 1:=by rw[←hH2,Heap.size_push]
 have hDC:s2.heap.objs.size≠G2.objs.size:=by rw[hC];exact Nat.ne_of_lt (Nat.lt_succ_self _)
 have hCle:s2.heap.objs.size≤G2.objs.size:=by rw[hC];exact Nat.le_succ _
 have old:∀ b o,s2.heap.get? b=some o→h₁.get? b=some o:=λb o e=>hsb₁.extBut b o (by rw[hC];exact Nat.ne_of_lt (Nat.lt_succ_of_lt (Heap.lt_size e))) (Heap.get?_push_of_some _ (hH2▸Heap.get?_push_of_some _ e));have hacc:h₁.get? s2.heap.objs.size=some { cls:=.type "list",data:=.seq #[] 0 }:=hsb₁.extBut _ _ hDC (Heap.get?_push_of_some _ (hH2▸Heap.get?_push_size _ rfl));have hlt:∀ b∈fp,b < s2.heap.objs.size:=λb hb=>by
  obtain⟨o,ho,_⟩:=T.obj 0 _ st2 b hb;exact Heap.lt_size ho
 have IB:=I2.block (t':=s2.toks + ([]:List (Str×Value)).length) B f2 hlt (Nat.le_refl _) hCle hDC old hns₁ hacc;have stB:tn 0 h₁:=T.keep 0 _ _ st2 λb _ o e=>old b o e;have fr0:∀ b∈fp,upd H2 s2.heap.objs.size (.lst []) b=none:=λb hb=>by
  rw[Z2 (Nat.ne_of_lt (hlt b hb))];exact (f2 b hb).1
 have sub:=X5 (env:=X.env) scope.names [] (λ_ _ q=>by simp at q);have stat:∀ {Hx:Hp},(∀ b∈fp,Hx b=none)→∀ b∈fp,X4 (ZP X scope N G2.objs.size s2 H2 fp) [] Hx b:=λhn b hb=>
  ⟨hn b hb,Nat.ne_of_lt (Nat.lt_of_lt_of_le (hlt b hb) hCle),λhm=>(List.mem_cons.mp (I2.stkSub b hm)).elim (f2 b hb).2.1 (f2 b hb).2.2.1,.inl hb,λx c e=>(f2 b hb).2.2.2.2.1 x c (sub x c e),λp hp=>nomatch hp⟩
 have loop:∀ s₃:Shared,s₃ = { s2 with heap:=h₁,toks:=s2.toks + ([]:List (Str×Value)).length }→
  codeAny (model X.prog X.w) X.A (.compLoop (.ListComp elt [⟨target,iter,[],0⟩] scope pos) 0 (.ref it) (.ref s2.heap.objs.size) (compEnvC scope (Xs scope X.env) G2.objs.size X.env))
   (compPost (model X.prog X.w) X.A X.xe none (EP X pins σ Q) (.ref s2.heap.objs.size) G2.objs.size) s₃:=by
  rintro s₃ rfl;refine codeAny_loop rfl (λn s'=>∃ i ys τ Hx,Inv (ZP X scope N G2.objs.size s2 H2 fp) [] τ Hx s'∧tn i s'.heap∧(∀ b∈fp,Hx b=none)∧W i n ys τ Hx) (λn s3 hI=>?_) m0 ⟨0,[],_,_,IB,stB,fr0,w0⟩;obtain⟨i,ys,τ,H3,I3,st3,fr3,w3⟩:=hI;show wpAny _ _ ((compTurn (.ListComp elt [⟨target,iter,[],0⟩] scope pos) 0 (.ref it) (.ref s2.heap.objs.size) (compEnvC scope (Xs scope X.env) G2.objs.size X.env)).onRaise (λx=>do noteFrame x (compEnvC scope (Xs scope X.env) G2.objs.size X.env);theTreesLotGoes x)) _ _ s3;refine wpAny_noted ?_;rw[compTurn_list1];refine wpAny_mono (E:=λ_ _=>False) ?_ (λ_ _ q=>q) λ_ _ z=>z.elim;refine wpAny_bind (wpAny_standAt (wpAny_bind ?_));obtain⟨hD3,sg⟩:=turn i n ys τ H3 w3
  rcases sg with⟨stop,qn⟩|⟨go,hys,Nx,hN,step⟩
  ·refine thn (T.done (ZP X scope N G2.objs.size s2 H2 fp) rfl rfl rfl hc i [] s3 τ H3 _ I3 (stat fr3) st3 stop) λr s4 zq=>?_;obtain⟨hr,I4⟩:=zq;subst hr;refine wpAny_pure ?_;obtain⟨m4,hn4,_⟩:=id I4.loc;exact⟨m4,hn4,λh' hs'=>⟨.ref s2.heap.objs.size,H3,I2.unblock f2 hCle I4 hs',rfl,qn⟩⟩
  ·refine thn (T.item (ZP X scope N G2.objs.size s2 H2 fp) rfl rfl rfl hc i [] s3 τ H3 _ I3 (stat fr3) st3 go) λr s4 zq=>?_;obtain⟨u,hr,h4⟩:=zq;subst hr;refine wpAny_bind (thn h4 λ_ s5 zq=>?_);obtain⟨x,H5,I5,r5,y5,st5,fr5⟩:=zq;have I5':=I5.pinned (stat fr5) (T.obj _ _ st5);refine wpAny_bind (thn (hg _ _ _ _ _ s5 τ H5 x u _ I5' r5 (step x H5 y5)) λ_ s6 zq=>?_);obtain⟨τ6,H6,I6,q6⟩:=zq;refine wpAny_bind (wpAny_bind (thn (he _ _ _ _ _ s6 τ6 H6 _ I6 q6) λyv s7 zq=>?_));obtain⟨y,H7,I7,r7,hD7,n7⟩:=zq;obtain⟨m',hm',w7⟩:=hN _ _ _ n7;refine wpAny_bind (thn (Ya _ s7 τ6 H7 (.ref s2.heap.objs.size) [y] (.ref s2.heap.objs.size) [yv] (λ_ Hz=>Hz=upd H7 s2.heap.objs.size (.lst (ys++[y]))) I7 rfl (.cons r7 .nil) ⟨_,_,_,rfl,rfl,hD7,hys,rfl⟩) λ_ s8 zq=>?_);obtain⟨_,H8,I8,_,e8⟩:=zq;subst e8;refine wpAny_pure (wpAny_pure ⟨rfl,m',hm',i + 1,_,τ6,_,I8.unpinned,T.keep _ _ _ st5 λb hb o e=>(I8.pin (b,o) (List.mem_append_right _ (List.mem_append_right _ (ZO hb e)))).1,λb hb=>?_,w7⟩);obtain⟨o,e,d⟩:=T.obj _ _ st5 b hb;exact (I8.pin (b,o) (List.mem_append_right _ (List.mem_append_right _ (ZO hb e)))).2.1
 exact codeAny_compStart_list (loop _ rfl) (T.self _ 0 _ _ _ stB (loop _ rfl))
theorem Z1Q {J:It}{g:TG}{te:TE}{Q:VK}{τ0:St}{D:Addr}{H1:Hp}(n:Nat)(Pv:Nat→List V→St→Hp→Prop)(h0:Pv 0 [] τ0 (upd H1 D (.lst [])))
 (hD:∀ i ys τ H,i≤n→Pv i ys τ H→H D=some (.lst ys))
 (hs:∀ i ys τ H,i < n→Pv i ys τ H→J.go i H∧ys.length < sizeLine∧∀ x H3,J.yld i H x H3→g x τ H3 λτ4 H4=>te τ4 H4 λy H5=>H5 D=some (.lst ys)∧Pv (i + 1) (ys++[y]) τ4 (upd H5 D (.lst (ys++[y]))))
 (hd:∀ ys τ H,Pv n ys τ H→J.stop n H∧Q (.ref D) H) :
 LC J D τ0 H1 g te Q:=by
 refine⟨λi m ys τ H=>m=n - i∧i≤n∧Pv i ys τ H,⟨n,by simp,Nat.zero_le _,h0⟩,?_⟩;rintro i m ys τ H ⟨rfl,hi,p⟩;refine⟨hD i ys τ H hi p,?_⟩
 by_cases hlt:i < n
 ·obtain⟨h1,h2,h3⟩:=hs i ys τ H hlt p;exact .inr ⟨h1,h2,Pv (i + 1),λzs τ' H' q=>⟨n - (i + 1),by omega,rfl,hlt,q⟩,h3⟩
 ·have e:i=n:=by omega
  subst e;exact .inl (hd ys τ H p)
section
variable {X:Cx}{pins:List (Addr×Obj)}{σ:St}{H:Hp}{s:Shared}{h':Heap}
theorem Inv.turnedN {t':Nat}{ch:List Addr}(I:Inv X pins σ H s)(k:∀ b o,b ∉ ch→s.heap.get? b=some o→h'.get? b=some o)(hf:∀ b∈ch,X4 X pins H b):Inv X pins σ H { s with heap:=h',toks:=t' }:=by
 have nit:∀ b u,H b=some u→b ∉ ch:=λb u e z=>by rw[(hf b z).1] at e;cases e
 refine I.step (g':=s.gens) (d':=s.drawn) (ch:=ch) (λb hb=>?_) (λb o _ _ hc e _=>k b o hc e) (λb o _ _ hc e _=>⟨o.slots,k b o hc e⟩) (λ_ _ _ _ n=>n)
  (λb o hc e=>⟨o,k b o hc e⟩) (λ_ _ e=>e) (λ_ _ _ e=>e) (λb ps e=>⟨#[],by rw[e];simp⟩) (λm hm=>?_) (λb u e=>?_) I.bare
 ·obtain⟨_,h2,h3,h4,h5,h6⟩:=hf b hb;exact⟨h4,h2,h5,h6⟩
 ·obtain⟨o,es,ep,ho,r⟩:=hm;exact⟨o,es,ep,k _ o (λz=>(hf _ z).2.1 rfl) ho,r⟩
 ·refine (I.hok b u e).stay (λc v hc q=>k c v ?_ q) (λ_ q=>q) λ_ _ q=>q
  rcases hc with z|z
  ·rw[z];exact nit b u e
  ·exact nit c _ z
theorem Inv.turnedLaid {t':Nat}{ch:List Addr}{a:Addr}{o:HO}(I:Inv X pins σ H s)(k:∀ b o,b ∉ ch→s.heap.get? b=some o→h'.get? b=some o)(hf:∀ b∈ch,X4 X pins H b)(hlt:∀ b∈ch,b < s.heap.objs.size)
 (hp:s.heap.objs.size≤a) (new:ObjOk X.prog X.w (upd H a o) h' a o):Inv X pins σ (upd H a o) { s with heap:=h',toks:=t' }:=by
 have hn:H a=none:=I.hok.fresh hp;have nit:∀ b u,H b=some u→b ∉ ch:=λb u e z=>by rw[(hf b z).1] at e;cases e
 refine I.step (g':=s.gens) (d':=s.drawn) (ch:=ch) (λb hb=>?_) (λb o _ _ hc e _=>k b o hc e) (λb o _ _ hc e _=>⟨o.slots,k b o hc e⟩) (λb o _ e n=>by rw[Z2 (Nat.ne_of_lt (Nat.lt_of_lt_of_le (Heap.lt_size e) hp))];exact n)
  (λb o hc e=>⟨o,k b o hc e⟩) (λb xs e=>by rw[Z2 (Z6 e hn)];exact e) (λb o u e=>by rw[Z2 (Z6 e hn)];exact e) (λb ps e=>⟨#[],by rw[Z2 (Z6 e hn),e];simp⟩) (λm hm=>?_) (λb u e=>?_) I.bare
 ·obtain⟨_,h2,h3,h4,h5,h6⟩:=hf b hb;exact⟨h4,h2,h5,h6⟩
 ·obtain⟨o,es,ep,ho,r⟩:=hm;exact⟨o,es,ep,k _ o (λz=>(hf _ z).2.1 rfl) ho,r⟩
 ·by_cases hb:b=a
  ·subst hb;rw[Z1] at e;cases e;exact new
  ·rw[Z2 hb] at e;refine (I.hok b u e).stay (λc v hc q=>k c v ?_ q) (λc q=>by rw[Z2 (Z6 q hn)];exact q) λc xs q=>by rw[Z2 (Z6 q hn)];exact q
   rcases hc with z|z
   ·rw[z];exact nit b u e
   ·exact nit c _ z
end
section
variable {X:Cx}{elts:List Expr}{k:Nat}{tpos:Pos}
end
theorem boot_all:bootBuiltins "all" = some (.builtin "all"):=by decide +kernel
section
variable {X:Cx}
theorem Z3o:∀ {bs:List Bool}{us:List Value}{i:Nat}{v:Value},Vals (bs.map V.bl) us→us[i]? = some v→∃ b,bs[i]? = some b∧v=.bool b
 | [],_,_,_,.nil,e=>by simp at e
 | b::bs,_,0,_,.cons r _,e=>by simp at e;subst e;exact⟨b,rfl,r⟩
 | b::bs,_,i + 1,v,.cons _ t,e=>by
   obtain⟨c,h1,h2⟩:=Z3o (i:=i) (v:=v) t (by simpa using e);exact⟨c,by simpa using h1,h2⟩
theorem Z4N (bs:List Bool):((List.range bs.length).all λi=>(bs[i]?).getD true)=bs.all id:=by
 rw[Bool.eq_iff_iff,List.all_eq_true,List.all_eq_true];constructor
 ·intro h b hb;obtain⟨i,hi,e⟩:=List.getElem_of_mem hb;have:=h i (List.mem_range.mpr hi);simp only[List.getElem?_eq_getElem hi,Option.getD_some,e] at this;exact this
 ·intro h i hi;have hi':=List.mem_range.mp hi;simp only[List.getElem?_eq_getElem hi',Option.getD_some];exact h _ (List.getElem_mem hi')
theorem Z6g (hc:X.calm=true):YK X (.builtin "all") (λxs H Q=>∃ (a:Addr) (bs:List Bool),xs=[.ref a]∧SqL X.K H a (bs.map V.bl)∧Q (.bl (bs.all id)) H):=by
 intro pins s σ H xs us Q I r h;obtain⟨a,bs,rfl,hq,q⟩:=h;obtain⟨u,rfl,rx⟩:=Xc r;cases rx;obtain⟨its,rv,p,hz⟩:=I.list hq;have hlt:a < s.heap.objs.size:=by obtain⟨_,_,e,_⟩:=p;exact Heap.lt_size e
 have hlen:=rv.length;rw[List.length_map] at hlen;refine call_all_walk (wpAny_pyIter_list (A:=X.A.in1) p.isList ?_);refine⟨s.heap.objs.size,[s.heap.objs.size,a],[s.heap.objs.size],its.toArray.size,_,_,λi=>(bs[i]?).getD true,rfl,Walks.list (A:=X.A.in1) (I.ok.hd hc) _ a (Nat.ne_of_lt hlt) its.toArray,
  ⟨⟨_,Heap.get?_push_size _ rfl,rfl,rfl⟩,p.isList.push _⟩,λi v s' Q' E' hP hQ=>?_,λh' tk hk=>?_⟩
 ·obtain⟨b,e,rfl⟩:=Z3o rv (by simpa using hP);simp only[e,Option.getD_some] at hQ;exact wpAny_truthy_bool hQ
 ·have e:((List.range its.toArray.size).all λi=>(bs[i]?).getD true)=bs.all id:=by
   rw[show its.toArray.size=bs.length by simp;omega];exact Z4N bs
  rw[e];refine⟨.bl (bs.all id),H,I.kept (h':=h') λb o eb=>?_,rfl,q⟩;exact hk b o (λhm=>by rw[List.mem_singleton.mp hm] at eb;exact Nat.lt_irrefl _ (Heap.lt_size eb)) (Heap.get?_push_of_some _ eb)
end
mutual
inductive Rep (H:Hp):V→PyData→Prop
 | non:Rep H .non .none
 | bl (b:Bool):Rep H (.bl b) (.bool b)
 | int (i:Int):Rep H (.int i) (.int i)
 | str (x:Str):Rep H (.str x) (.str x)
 | lst {a:Addr}{xs:List V}{ds:List PyData}:H a=some (.lst xs)→xs.length < sizeLine→Reps H xs ds→Rep H (.ref a) (.list ds)
 | tup {a:Addr}{xs:List V}{ds:List PyData}:H a=some (.tup xs)→xs.length < sizeLine→Reps H xs ds→Rep H (.ref a) (.tuple ds)
inductive Reps (H:Hp):List V→List PyData→Prop
 | nil:Reps H [] []
 | cons {v:V}{vs:List V}{d:PyData}{ds:List PyData}:Rep H v d→Reps H vs ds→Reps H (v::vs) (d::ds)
end
mutual
theorem Rep.same {H H':Hp}(e:Same H H'):∀ {v:V}{d:PyData},Rep H v d→Rep H' v d
 | _,_,.non=>.non
 | _,_,.bl b=>.bl b
 | _,_,.int i=>.int i
 | _,_,.str x=>.str x
 | _,_,.lst h z r=>.lst (e _ _ h) z (r.same e)
 | _,_,.tup h z r=>.tup (e _ _ h) z (r.same e)
theorem Reps.same {H H':Hp}(e:Same H H'):∀ {vs:List V}{ds:List PyData},Reps H vs ds→Reps H' vs ds
 | _,_,.nil=>.nil
 | _,_,.cons h r=>.cons (h.same e) (r.same e)
end
section
variable {X:Cx}{pins:List (Addr×Obj)}{σ:St}{H:Hp}{s:Shared}
mutual
theorem Inv.reads (I:Inv X pins σ H s):∀ {v:V}{d:PyData}{u:Value},Rep H v d→RelV v u→∃ as,Reads s.heap u d as
 | _,_,_,.non,r=>by cases r;exact⟨_,.none⟩
 | _,_,_,.bl b,r=>by cases r;exact⟨_,.bool b⟩
 | _,_,_,.int i,r=>by obtain⟨t,rfl⟩:=r;exact⟨_,.int i t⟩
 | _,_,_,.str x,r=>by obtain⟨t,rfl⟩:=r;exact⟨_,.str x t⟩
 | _,_,_,.lst (a:=a) (xs:=xs) h _ q,r=>by
   cases r;obtain⟨_,its,n,rv,e⟩:=(show ObjOk X.prog X.w H s.heap a (.lst xs) from I.hok a _ h);obtain⟨as,ra⟩:=I.readsAll q rv;exact⟨_,.list e rfl rfl (by simpa using ra)⟩
 | _,_,_,.tup (a:=a) (xs:=xs) h _ q,r=>by
   cases r;obtain⟨_,its,rv,o,e,c,n,dd⟩:=(show ObjOk X.prog X.w H s.heap a (.tup xs) from I.hok a _ h);obtain⟨as,ra⟩:=I.readsAll q rv;exact⟨_,.tuple e c dd (by simpa using ra)⟩
theorem Inv.readsAll (I:Inv X pins σ H s):∀ {vs:List V}{ds:List PyData}{us:List Value},Reps H vs ds→Vals vs us→∃ as,ReadsAll s.heap us ds as
 | _,_,_,.nil,.nil=>⟨_,.nil⟩
 | _,_,_,.cons h q,.cons r rr=>by
   obtain⟨as,ra⟩:=I.reads h r;obtain⟨bs,rb⟩:=I.readsAll q rr;exact⟨_,.cons ra rb⟩
end
theorem Z7n (hu:X.A.units + 64 < cLine):OpR X (compareOp .Eq) (λx y H Q=>∃ d e,Rep H x d∧Rep H y e∧SeqAt.shaped d=true∧SeqAt.shaped e=true∧Q (.bl (PyData.eqv d e)) H):=by
 intro pins s σ H x y v u Q I rx ry h;obtain⟨d,e,h1,h2,s1,s2,q⟩:=h;obtain⟨as,ra⟩:=I.reads h1 rx;obtain⟨bs,rb⟩:=I.reads h2 ry;exact eq_dataH ra rb s1 s2 hu ⟨.bl _,H,I,rfl,q⟩
theorem Z2B (hu:X.A.units + 64 < cLine):OpR X (compareOp .NotEq) (λx y H Q=>∃ d e,Rep H x d∧Rep H y e∧SeqAt.shaped d=true∧SeqAt.shaped e=true∧Q (.bl (!PyData.eqv d e)) H):=by
 intro pins s σ H x y v u Q I rx ry h;obtain⟨d,e,h1,h2,s1,s2,q⟩:=h;obtain⟨as,ra⟩:=I.reads h1 rx;obtain⟨bs,rb⟩:=I.reads h2 ry;exact ne_dataH ra rb s1 s2 hu ⟨.bl _,H,I,rfl,q⟩
end
mutual
theorem Z2S:∀ d:PyData,PyData.canLay0 d=true→PyData.eqv d d=true
 | .none,_=>by simp[PyData.eqv]
 | .bool b,_=>by simp[PyData.eqv]
 | .int i,_=>by simp[PyData.eqv]
 | .str x,_=>by simp[PyData.eqv]
 | .list xs,h=>by simp only[PyData.eqv];exact XW xs (by simpa [PyData.canLay0] using h)
 | .tuple xs,h=>by simp only[PyData.eqv];exact XW xs (by simpa [PyData.canLay0] using h)
 | .dict _,h=>by simp[PyData.canLay0] at h
theorem XW:∀ ds:List PyData,PyData.canLayAll0 ds=true→PyData.eqvAll ds ds=true
 | [],_=>by simp[PyData.eqvAll]
 | d::ds,h=>by
   simp only[PyData.canLayAll0,Bool.and_eq_true] at h;simp only[PyData.eqvAll,Bool.and_eq_true];exact⟨Z2S d h.1,XW ds h.2⟩
end
theorem Z0u {d:PyData}(h:SeqAt.shaped d=true):PyData.eqv d d=true:=Z2S d (SeqAt.canLay_of_shaped h)
noncomputable def Z7j (osc:Scope)(ON:List Str)(scope:Scope)(N:List Str)(fr:List (Option Nat)):Bool:=
 decide (scope.kind=.function) && decide N.Nodup && decide (fr.length=N.length) && scope.names.all (λp=>decide (p.2≠.cell)) &&
 scope.names.all (λp=>decide (p.2=.local→scope.names.lookup p.1=some .local)) &&
 scope.names.all (λp=>decide (p.2=.free→osc.names.lookup p.1=some .cell∨osc.names.lookup p.1=some .free)) &&
 (List.range N.length).all (λj=>match fr[j]? with
   | some (some i)=>decide (ON[i]? = N[j]?∧∃ x,N[j]? = some x∧scope.names.lookup x=some .free)
   | _=>true)
theorem Z0Q {α:Type}:∀ {l:List (Str×α)}{x:Str}{a:α},l.lookup x=some a→(x,a)∈l
 | [],_,_,h=>by simp at h
 | (n,v)::r,x,a,h=>by
   rw[X7] at h
   by_cases e:x=n
   ·rw[if_pos e] at h;cases h;rw[e];exact List.mem_cons_self
   ·rw[if_neg e] at h;exact List.mem_cons_of_mem _ (Z0Q h)
theorem JV {env:Env}:∀ {ns:List (Str×NameKind)}{x:Str},ns.lookup x=some .free→
 (ns.map λ(n,k)=>if (k == NameKind.free && env.scope.kind == .function && env.kindOf n == some .cell) then (n,NameKind.cell) else (n,k)).lookup x=some .cell∨
 (ns.map λ(n,k)=>if (k == NameKind.free && env.scope.kind == .function && env.kindOf n == some .cell) then (n,NameKind.cell) else (n,k)).lookup x=some .free
 | [],_,h=>by simp at h
 | (n,q)::r,x,h=>by
   have ih:=@JV env r x;rw[X7] at h;show List.lookup x ((if (q == NameKind.free && env.scope.kind == .function && env.kindOf n == some .cell)=true then (n,NameKind.cell) else (n,q))::_)=_∨List.lookup x ((if (q == NameKind.free && env.scope.kind == .function && env.kindOf n == some .cell)=true then (n,NameKind.cell) else (n,q))::_)=_
   by_cases c:(q == NameKind.free && env.scope.kind == .function && env.kindOf n == some .cell)=true
   ·rw[if_pos c,X7]
    by_cases e:x=n
    ·rw[if_pos e];exact .inl rfl
    ·rw[if_neg e] at h ⊢;exact ih h
   ·rw[if_neg c,X7]
    by_cases e:x=n
    ·rw[if_pos e] at h ⊢;exact .inr h
    ·rw[if_neg e] at h ⊢;exact ih h
theorem J3 {X:Cx}{osc:Scope}{ON:List Str}{scope:Scope}{N:List Str}{fr:List (Option Nat)}(h:Z7j osc ON scope N fr=true)(hsc:X.env.scope=osc)(hN:X.N=ON):BlkOk X scope N fr:=by
 unfold Z7j at h;simp only[Bool.and_eq_true,decide_eq_true_eq,List.all_eq_true] at h;obtain⟨⟨⟨⟨⟨⟨h1,h2⟩,h3⟩,h4⟩,h5⟩,h6⟩,h7⟩:=h;refine⟨h1,h2,h3,h4,h5,λp hp e=>?_,λj i x e1 e2=>?_⟩
 ·unfold Env.kindOf;rw[hsc];exact h6 p hp e
 ·have hj:j < N.length:=(List.getElem?_eq_some_iff.mp e1).1;have q:=h7 j (List.mem_range.mpr hj);rw[e2] at q;simp only[decide_eq_true_eq] at q;obtain⟨q1,y,q2,q3⟩:=q;rw[e1] at q1 q2;cases q2;rw[hN];exact⟨q1,Z0Q q3,JV q3⟩
section
variable {σ:St}{H H1:Hp}{Q:VK}{D:Ends}{i j k:Int}{v x y:V}{ta tb te:TE}{tt tu:TT}{t u:TS}{n:Nat}{b:Bool}
theorem rd_var (h:σ[n]? = some (some v))(q:Q v H):XX n σ H Q:=⟨v,h,q⟩
theorem rd_c (q:Q v H):tC v σ H Q:=q
theorem rd_op {r:R2}(q:ta σ H λx H1=>tb σ H1 λy H2=>r x y H2 Q):tOp r ta tb σ H Q:=q
theorem rd_un {r:V→Hp→VK→Prop}(q:ta σ H λx H1=>r x H1 Q):tUn r ta σ H Q:=q
theorem rd_I0 {g:Int→Int→V}(q:Q (g i j) H):rI0 g (.int i) (.int j) H Q:=⟨i,j,rfl,rfl,q⟩
theorem rd_I {C:Int→Int→Prop}{g:Int→Int→V}(c:C i j)(q:Q (g i j) H):rI C g (.int i) (.int j) H Q:=⟨i,j,rfl,rfl,c,q⟩
theorem rd_U {g:Int→V}(q:Q (g i) H):rU g (.int i) H Q:=⟨i,rfl,q⟩
theorem Z2y:decide (V.int i=V.int j)=decide (i=j):=by
 by_cases h:i=j<;>simp[h]
theorem rd_eqI (q:Q (.bl (decide (i=j))) H):rEq (.int i) (.int j) H Q:=⟨rfl,(congrArg (λz=>Q (.bl z) H) Z2y).mpr q⟩
theorem rd_neI (q:Q (.bl (!decide (i=j))) H):rNe (.int i) (.int j) H Q:=⟨rfl,(congrArg (λz=>Q (.bl (!z)) H) Z2y).mpr q⟩
theorem rd_test (q:te σ H λx H'=>∃ k,x=.bl k∧Qb k H'):Z1S te σ H Qb:=q
theorem rd_bl {R:Bool→Prop}(q:R b):∃ k,V.bl b=.bl k∧R k:=⟨b,rfl,q⟩
theorem rd_tB {Qb:Bool→Hp→Prop}(q:te σ H λx H'=>∃ k,x=.bl k∧Qb k H'):tB te σ H Qb:=q
theorem rd_seq (q:t { D with nx:=u D } σ H):Z2z t u D σ H:=q
theorem rd_next (q:D.nx σ H):Z3Z D σ H:=q
theorem rd_asg {g:TG}(q:te σ H λx H1=>g x σ H1 D.nx):Z4k te g D σ H:=q
theorem rd_gname {Qs:St→Hp→Prop}(q:Qs (σ.set n (some v)) H):Z0P n v σ H Qs:=q
theorem rd_drop (q:te σ H λ_ H1=>D.nx σ H1):Z6r te D σ H:=q
theorem rd_ret (q:te σ H D.rt):Z3C te D σ H:=q
theorem rd_if (q:tt σ H λb H1=>if b=true then t D σ H1 else u D σ H1):Z2U tt t u D σ H:=q
theorem rd_and {Qb:Bool→Hp→Prop}(q:tt σ H λc H1=>if c=true then tu σ H1 Qb else Qb false H1):Z7x tt tu σ H Qb:=q
theorem rd_or {Qb:Bool→Hp→Prop}(q:tt σ H λc H1=>if c=true then Qb true H1 else tu σ H1 Qb):tOr tt tu σ H Qb:=q
theorem rd_not {Qb:Bool→Hp→Prop}(q:tt σ H λc H1=>Qb (!c) H1):Z5W tt σ H Qb:=q
theorem rd_andV (q:ta σ H λx H1=>∃ c,x=.bl c∧if c=true then tb σ H1 Q else Q (.bl false) H1):Z6C ta tb σ H Q:=q
theorem rd_notV (q:ta σ H λx H1=>∃ c,x=.bl c∧Q (.bl (!c)) H1):Z6A ta σ H Q:=q
theorem rd_ifE (q:tt σ H λc H1=>if c=true then ta σ H1 Q else tb σ H1 Q):tIf tt ta tb σ H Q:=q
theorem rd_nil {Qa:List V→Hp→Prop}(q:Qa [] H):JN σ H Qa:=q
theorem rd_cons {tr:TA}{Qa:List V→Hp→Prop}(q:te σ H λx H1=>tr σ H1 λxs H2=>Qa (x::xs) H2):Z6p te tr σ H Qa:=q
theorem rd_call {sp:Sp}{dvs:List V}{E:XK}{tr:TA}(q:tr σ H λvs H1=>sp (vs++dvs) H1 Q E):Z3Y sp dvs E tr σ H Q:=q
theorem rd_cb {r:List V→Hp→VK→Prop}{tr:TA}(q:tr σ H λvs H1=>r vs H1 Q):tCB r tr σ H Q:=q
theorem rd_lst {tr:TA}(q:tr σ H λxs H1=>xs.length≤sizeLine∧∀ p,H1 p=none→Q (.ref p) (upd H1 p (.lst xs))):Z7o tr σ H Q:=q
theorem rd_tup {tr:TA}(q:tr σ H λxs H1=>xs.length≤sizeLine∧∀ p,H1 p=none→Q (.ref p) (upd H1 p (.tup xs))):Z7B tr σ H Q:=q
theorem rd_chain {r r':R2}{tc:TE}(q:ta σ H λx H1=>tb σ H1 λy H2=>r x y H2 λz H3=>∃ k,z=.bl k∧(if k=true then tc σ H3 λw' H4=>r' y w' H4 Q else Q (.bl false) H3)):Z2R r r' ta tb tc σ H Q:=q
theorem rd_bm {K:W.Frag}{T:String}{r:V→List V→Hp→VK→Prop}{tr:TA}(q:te σ H λx H1=>tyV K T x H1∧tr σ H1 λxs H2=>r x xs H2 Q):tBM K T r te tr σ H Q:=q
theorem rd_bm0 {K:W.Frag}{T:String}{r:V→List V→Hp→VK→Prop}(q:te σ H λx H1=>tyV K T x H1∧r x [] H1 Q):Z7Q K T r te σ H Q:=q
theorem rd_gsub {to ti:TE}{ts:Z46}{Qs:St→Hp→Prop}(q:to σ H λo H1=>ti σ H1 λi H2=>ts o i v H2 λH3=>Qs σ H3):Z7k to ti ts v σ H Qs:=q
theorem Zn {K:W.Frag}{p:Addr}{xs:List V}(h:SqL K H p xs)(hv:atI xs i=some v)(q:Q v H):Z64 K (.ref p) (.int i) H Q:=⟨p,xs,i,v,rfl,rfl,h,hv,q⟩
theorem J7 {p:Addr}{xs:List V}{jn:Nat}{Qh:Hp→Prop}(h:H p=some (.lst xs))(hj:ixN xs.length i=some jn)(q:Qh (upd H p (.lst (xs.set jn v)))):Z6D (.ref p) (.int i) v H Qh:=⟨p,xs,i,jn,rfl,rfl,h,hj,q⟩
theorem XH {p:Addr}{xs:List V}(h:H p=some (.lst xs))(z:xs.length < sizeLine)(q:Q .non (upd H p (.lst (xs++[y])))):Z3y (.ref p) [y] H Q:=⟨p,xs,y,rfl,rfl,h,z,q⟩
end
theorem YL {X:Cx}{x:Str}{i:Int}{pos:Pos}(hg:Gl X x)(hm:∃ t,X.mg x=some (.int i t))(hd:(x == ("__debug__" : Str))=false:=by decide):PE X (.Name x pos) (tC (.int i)):=by
 obtain⟨t,ht⟩:=hm;exact Z3w hg ht ⟨t,rfl⟩ hd
theorem boot_list:bootBuiltins "list" = some (.type "list"):=by decide +kernel
theorem boot_int:bootBuiltins "int" = some (.type "int"):=by decide +kernel
theorem boot_max:bootBuiltins "max" = some (.builtin "max"):=by decide +kernel
noncomputable def Keep (b:Addr)(H H':Hp):Prop:=∀ c o,H c=some o→c≠b→H' c=some o
theorem Keep.refl {b:Addr}{H:Hp}:Keep b H H:=λ_ _ h _=>h
theorem Keep.trans {b:Addr}{H H1 H2:Hp}(a:Keep b H H1)(c:Keep b H1 H2):Keep b H H2:=λd o h n=>c d o (a d o h n) n
theorem Keep.free {b:Addr}{H H':Hp}(e:Keep b H H'){l:Addr}(h:H' l=Option.none)(n:l≠b):H l=Option.none:=by
 cases q:H l with
 | none=>rfl
 | some o=>rw[e l o q n] at h;cases h
theorem Keep.new {b:Addr}{H:Hp}{p:Addr}{o:HO}(h:H p=none):Keep b H (upd H p o):=λc u q _=>by rw[Z2 (Z6 q h)];exact q
theorem Keep.set {b:Addr}{H:Hp}{o:HO}:Keep b H (upd H b o):=λc u q n=>by rw[Z2 n];exact q
theorem Same.keep {b:Addr}{H H':Hp}(e:Same H H'):Keep b H H':=λc o q _=>e c o q
theorem Same.new {H:Hp}{p:Addr}(h:H p=none)(o:HO):Same H (upd H p o):=λb u q=>by rw[Z2 (Z6 q h)];exact q
theorem small {n:Nat}(h:n≤1000):n≤sizeLine:=Nat.le_of_lt (Z1s h)
theorem ZB {n:Nat}(h:n≤1000):n < sizeLine:=Z1s h
theorem Z7O {A:Around}{k:Nat}(hr:Room k A):A.units + 64 < cLine:=by have:=hr.un;omega
end L2
namespace L2
theorem Zo {c A B:Prop}[Decidable c](h:¬ c)(q:B):if c then A else B:=by
 rw[if_neg h];exact q
theorem ZJ {c A B:Prop}[Decidable c](h:c)(q:A):if c then A else B:=by
 rw[if_pos h];exact q
end L2
namespace L2
open PySem PySem.Spec PyProof.Rows
section
variable {X:Cx}{K:W.Frag}
theorem ixL (hK:X.K=K):IxR X (Z64 K):=hK▸Z6S
theorem ixT (hK:X.K=K):IxR X (Z5A K):=hK▸Z7G
theorem XV (hK:X.K=K):YK X (.builtin "len") (λxs H Q=>∃ p ys,xs=[.ref p]∧(SqL K H p ys∨SqT K H p ys)∧Q (.int ys.length) H):=hK▸Z2Q
theorem Z6E (hK:X.K=K):YK X (.type "list") (λxs H Q=>∃ p ys,xs=[.ref p]∧(SqL K H p ys∨SqT K H p ys)∧∀ l,H l=none→Q (.ref l) (upd H l (.lst ys))):=hK▸Z21
theorem Z8l (hK:X.K=K)(hc:X.calm=true):YK X (.builtin "all") (λxs H Q=>∃ (a:Addr) (bs:List Bool),xs=[.ref a]∧SqL K H a (bs.map V.bl)∧Q (.bl (bs.all id)) H):=hK▸Z6g hc
theorem inS (hK:X.K=K):OpR X (compareOp .In) (rIn K false):=hK▸Z4O
theorem Z0M (hK:X.K=K):OpR X (compareOp .NotIn) (rIn K true):=hK▸Z2C
theorem piL {tg l:Expr}{tl:TE}(hK:X.K=K)(hl:PE X l tl):PI X tg l (Z6u K tl):=hK▸Z73 hl
theorem pgT {pos:Pos}{es:List Expr}{k:Nat}{t:TGs}{n:Nat}(hK:X.K=K)(hc:X.calm=true)(h:PGs X es t)(hn:(assignEach es X.env).length=n:=by rfl)(hst:(assignEach es X.env).findIdx? (·.1)=none:=by rfl):PG X (.Tuple es k pos) (Z5I K n t):=hK▸Z7i hc h hn hst
end
end L2
namespace Wg
end Wg
namespace Wg
open PySem
end Wg
namespace L2
open PySem PySem.Spec PyProof.Rows
section
variable {X:Cx}
end
section
variable {X:Cx}
theorem Z1r {i j:Int}{n:Nat}(h:(n:Int)=i - j):Builtin.Range.rangeSize i j (-1)=(n:Int):=by
 unfold Builtin.Range.rangeSize;rw[if_neg (by decide)]
 by_cases c:i > j
 ·rw[if_pos c,show (-(-1):Int)=1 by decide,Int.ediv_one];omega
 ·rw[if_neg c];omega
theorem Z3X {i j:Int}{n:Nat}(h:(n:Int)=i - j)(h1:-(2 ^ 40)≤j)(h2:i≤2 ^ 40):Builtin.Range.small i j (-1)=true:=by
 unfold Builtin.Range.small;rw[Z1r h];simp only[Builtin.Range.rangeFitsLong,Bool.and_eq_true,Bool.or_eq_true,decide_eq_true_eq,beq_iff_eq,show ¬ ((-1:Int) > 0) by decide,if_false];omega
end
section
variable {X:Cx}
end
noncomputable def LCi (J:It)(D:Addr)(τ0:St)(H1:Hp)(g:TG)(tc:TT)(te:TE)(Q:VK):Prop:=∃ W:Nat→Nat→List V→St→Hp→Prop,
 (∃ m,W 0 m [] τ0 (upd H1 D (.lst [])))∧∀ i m ys τ H2,W i m ys τ H2→H2 D=some (.lst ys)∧
   ((J.stop i H2∧Q (.ref D) H2)∨(J.go i H2∧ys.length < sizeLine∧∃ N:List V→St→Hp→Prop,(∀ zs τ' H',N zs τ' H'→∃ m',m' < m∧W (i + 1) m' zs τ' H')∧∀ x H3,J.yld i H2 x H3→g x τ H3 λτ4 H4=>tc τ4 H4 λok H5=>if ok=true then te τ4 H5 (λy H6=>H6 D=some (.lst ys)∧N (ys++[y]) τ4 (upd H6 D (.lst (ys++[y])))) else N ys τ4 H5))
noncomputable def Z8a (fr:List (Option Nat))(wi:TI)(g:TG)(tc:TT)(te:TE):TE:=λσ H Q=>wi σ H λJ H1=>∀ D,H1 D=none→LCi J D (blk fr σ) H1 g tc te Q
theorem Z1u {X:Cx}{elt target iter cnd:Expr}{scope:Scope}{pos:Pos}{N:List Str}{fr:List (Option Nat)}{wi:TI}{g:TG}{tc:TT}{te:TE}(hc:X.calm=true)(B:BlkOk X scope N fr)(hi:PI X target iter wi)
 (hg:∀ C s H fp,PG (ZP X scope N C s H fp) target g) (ht:∀ C s H fp,PT (ZP X scope N C s H fp) cnd tc) (he:∀ C s H fp,PE (ZP X scope N C s H fp) elt te)
 (hs:∀ x,foldedSetIterable iter X.env x=pure x:=by intro _;rfl):PE X (.ListComp elt [⟨target,iter,[cnd],0⟩] scope pos) (Z8a fr wi g tc te):=by
 intro pins s σ H Q I h;rw[eval_ListComp];refine wpAny_comprehension_free (use:=none) (g:=⟨target,iter,[cnd],0⟩) (gs:=[]) rfl hs (Xt λp hp hk=>I.ok.has p.1 (B.free p hp hk)) B.kind B.loc (thn (hi pins s σ H _ I h) λv s1 h1=>thn h1 λitv s2 h2=>?_);obtain⟨it,fp,tn,J,H2,e,I2,T,st2,f2,rd⟩:=h2;subst e;obtain⟨W,⟨m0,w0⟩,turn⟩:=rd s2.heap.objs.size (I2.hok.fresh (Nat.le_refl _));refine wpAny_newObj_type (hd:=by size_fits) (wpAny_newFunctionEnv B.nocell (by intro y hy;simp at hy) (λh₁ hns₁ hsb₁=>?_) B.kind);dsimp only at hns₁ hsb₁ ⊢;generalize hH2:s2.heap.push { cls:=.type "list",dict:=none,data:=.seq ([]:List Value).toArray }=G2 at hns₁ hsb₁ ⊢;have hC:G2.objs.size=s2.heap.objs.size + 1:=by rw[←hH2,Heap.size_push]
 have hDC:s2.heap.objs.size≠G2.objs.size:=by rw[hC];exact Nat.ne_of_lt (Nat.lt_succ_self _)
 have hCle:s2.heap.objs.size≤G2.objs.size:=by rw[hC];exact Nat.le_succ _
 have old:∀ b o,s2.heap.get? b=some o→h₁.get? b=some o:=λb o e=>hsb₁.extBut b o (by rw[hC];exact Nat.ne_of_lt (Nat.lt_succ_of_lt (Heap.lt_size e))) (Heap.get?_push_of_some _ (hH2▸Heap.get?_push_of_some _ e));have hacc:h₁.get? s2.heap.objs.size=some { cls:=.type "list",data:=.seq #[] 0 }:=hsb₁.extBut _ _ hDC (Heap.get?_push_of_some _ (hH2▸Heap.get?_push_size _ rfl));have hlt:∀ b∈fp,b < s2.heap.objs.size:=λb hb=>by
  obtain⟨o,ho,_⟩:=T.obj 0 _ st2 b hb;exact Heap.lt_size ho
 have IB:=I2.block (t':=s2.toks + ([]:List (Str×Value)).length) B f2 hlt (Nat.le_refl _) hCle hDC old hns₁ hacc;have stB:tn 0 h₁:=T.keep 0 _ _ st2 λb _ o e=>old b o e;have fr0:∀ b∈fp,upd H2 s2.heap.objs.size (.lst []) b=none:=λb hb=>by
  rw[Z2 (Nat.ne_of_lt (hlt b hb))];exact (f2 b hb).1
 have sub:=X5 (env:=X.env) scope.names [] (λ_ _ q=>by simp at q);have stat:∀ {Hx:Hp},(∀ b∈fp,Hx b=none)→∀ b∈fp,X4 (ZP X scope N G2.objs.size s2 H2 fp) [] Hx b:=λhn b hb=>
  ⟨hn b hb,Nat.ne_of_lt (Nat.lt_of_lt_of_le (hlt b hb) hCle),λhm=>(List.mem_cons.mp (I2.stkSub b hm)).elim (f2 b hb).2.1 (f2 b hb).2.2.1,.inl hb,λx c e=>(f2 b hb).2.2.2.2.1 x c (sub x c e),λp hp=>nomatch hp⟩
 have loop:∀ s₃:Shared,s₃ = { s2 with heap:=h₁,toks:=s2.toks + ([]:List (Str×Value)).length }→
  codeAny (model X.prog X.w) X.A (.compLoop (.ListComp elt [⟨target,iter,[cnd],0⟩] scope pos) 0 (.ref it) (.ref s2.heap.objs.size) (compEnvC scope (Xs scope X.env) G2.objs.size X.env))
   (compPost (model X.prog X.w) X.A X.xe none (EP X pins σ Q) (.ref s2.heap.objs.size) G2.objs.size) s₃:=by
  rintro s₃ rfl;refine codeAny_loop rfl (λn s'=>∃ i ys τ Hx,Inv (ZP X scope N G2.objs.size s2 H2 fp) [] τ Hx s'∧tn i s'.heap∧(∀ b∈fp,Hx b=none)∧W i n ys τ Hx) (λn s3 hI=>?_) m0 ⟨0,[],_,_,IB,stB,fr0,w0⟩;obtain⟨i,ys,τ,H3,I3,st3,fr3,w3⟩:=hI;show wpAny _ _ ((compTurn (.ListComp elt [⟨target,iter,[cnd],0⟩] scope pos) 0 (.ref it) (.ref s2.heap.objs.size) (compEnvC scope (Xs scope X.env) G2.objs.size X.env)).onRaise (λx=>do noteFrame x (compEnvC scope (Xs scope X.env) G2.objs.size X.env);theTreesLotGoes x)) _ _ s3;refine wpAny_noted ?_;rw[compTurn_list];refine wpAny_mono (E:=λ_ _=>False) ?_ (λ_ _ q=>q) λ_ _ z=>z.elim;refine wpAny_bind (wpAny_standAt (wpAny_bind ?_));obtain⟨hD3,sg⟩:=turn i n ys τ H3 w3
  rcases sg with⟨stop,qn⟩|⟨go,hys,Nx,hN,step⟩
  ·refine thn (T.done (ZP X scope N G2.objs.size s2 H2 fp) rfl rfl rfl hc i [] s3 τ H3 _ I3 (stat fr3) st3 stop) λr s4 zq=>?_;obtain⟨hr,I4⟩:=zq;subst hr;refine wpAny_pure ?_;obtain⟨m4,hn4,_⟩:=id I4.loc;exact⟨m4,hn4,λh' hs'=>⟨.ref s2.heap.objs.size,H3,I2.unblock f2 hCle I4 hs',rfl,qn⟩⟩
  ·refine thn (T.item (ZP X scope N G2.objs.size s2 H2 fp) rfl rfl rfl hc i [] s3 τ H3 _ I3 (stat fr3) st3 go) λr s4 zq=>?_;obtain⟨u,hr,h4⟩:=zq;subst hr;refine wpAny_bind (thn h4 λ_ s5 zq=>?_);obtain⟨x,H5,I5,r5,y5,st5,fr5⟩:=zq;have I5':=I5.pinned (stat fr5) (T.obj _ _ st5);refine wpAny_bind (thn (hg _ _ _ _ _ s5 τ H5 x u _ I5' r5 (step x H5 y5)) λ_ s6 zq=>?_);obtain⟨τ6,H6,I6,q6⟩:=zq;refine wpAny_bind (wpAny_tests_one (thn (ht _ _ _ _ _ s6 τ6 H6 _ I6 q6) λok s6' zq=>?_));obtain⟨H6',I6',q6'⟩:=zq;cases ok with
   | false=>
     obtain⟨m',hm',w7⟩:=hN _ _ _ q6';refine wpAny_pure ⟨rfl,m',hm',i + 1,_,τ6,_,I6'.unpinned,T.keep _ _ _ st5 λb hb o e=>(I6'.pin (b,o) (List.mem_append_right _ (List.mem_append_right _ (ZO hb e)))).1,λb hb=>?_,w7⟩;obtain⟨o,e,d⟩:=T.obj _ _ st5 b hb;exact (I6'.pin (b,o) (List.mem_append_right _ (List.mem_append_right _ (ZO hb e)))).2.1
   | true=>
     refine wpAny_bind (wpAny_bind (thn (he _ _ _ _ _ s6' τ6 H6' _ I6' q6') λyv s7 zq=>?_));obtain⟨y,H7,I7,r7,hD7,n7⟩:=zq;obtain⟨m',hm',w7⟩:=hN _ _ _ n7;refine wpAny_bind (thn (Ya _ s7 τ6 H7 (.ref s2.heap.objs.size) [y] (.ref s2.heap.objs.size) [yv] (λ_ Hz=>Hz=upd H7 s2.heap.objs.size (.lst (ys++[y]))) I7 rfl (.cons r7 .nil) ⟨_,_,_,rfl,rfl,hD7,hys,rfl⟩) λ_ s8 zq=>?_);obtain⟨_,H8,I8,_,e8⟩:=zq;subst e8;refine wpAny_pure (wpAny_pure ⟨rfl,m',hm',i + 1,_,τ6,_,I8.unpinned,T.keep _ _ _ st5 λb hb o e=>(I8.pin (b,o) (List.mem_append_right _ (List.mem_append_right _ (ZO hb e)))).1,λb hb=>?_,w7⟩);obtain⟨o,e,d⟩:=T.obj _ _ st5 b hb;exact (I8.pin (b,o) (List.mem_append_right _ (List.mem_append_right _ (ZO hb e)))).2.1
 exact codeAny_compStart_list (loop _ rfl) (T.self _ 0 _ _ _ stB (loop _ rfl))
theorem Z4X {J:It}{g:TG}{tc:TT}{te:TE}{Q:VK}{τ0:St}{D:Addr}{H1:Hp}(n:Nat)(Pv:Nat→List V→St→Hp→Prop)(h0:Pv 0 [] τ0 (upd H1 D (.lst [])))
 (hD:∀ i ys τ H,i≤n→Pv i ys τ H→H D=some (.lst ys))
 (hs:∀ i ys τ H,i < n→Pv i ys τ H→J.go i H∧ys.length < sizeLine∧∀ x H3,J.yld i H x H3→g x τ H3 λτ4 H4=>tc τ4 H4 λok H5=>if ok=true then te τ4 H5 (λy H6=>H6 D=some (.lst ys)∧Pv (i + 1) (ys++[y]) τ4 (upd H6 D (.lst (ys++[y])))) else Pv (i + 1) ys τ4 H5)
 (hd:∀ ys τ H,Pv n ys τ H→J.stop n H∧Q (.ref D) H) :
 LCi J D τ0 H1 g tc te Q:=by
 refine⟨λi m ys τ H=>m=n - i∧i≤n∧Pv i ys τ H,⟨n,by simp,Nat.zero_le _,h0⟩,?_⟩;rintro i m ys τ H ⟨rfl,hi,p⟩;refine⟨hD i ys τ H hi p,?_⟩
 by_cases hlt:i < n
 ·obtain⟨h1,h2,h3⟩:=hs i ys τ H hlt p;exact .inr ⟨h1,h2,Pv (i + 1),λzs τ' H' q=>⟨n - (i + 1),by omega,rfl,hlt,q⟩,h3⟩
 ·have e:i=n:=by omega
  subst e;exact .inl (hd ys τ H p)
theorem Z71 {X:Cx}{elt target iter:Expr}{scope:Scope}{pos spos px:Pos}{xn:Str}{gx:TG}{N:List Str}{fr:List (Option Nat)}{wi:TI}{g:TG}{te:TE}(hc:X.calm=true)(B:BlkOk X scope N fr)(hi:PI X target iter wi)
 (hg:∀ C s H fp,PG (ZP X scope N C s H fp) target g) (he:∀ C s H fp,PE (ZP X scope N C s H fp) elt te) (hx:PG X (.Name xn px) gx) (hsw:swapsWith (.ListComp elt [⟨target,iter,[],0⟩] scope pos) (some (.Name xn px)) spos.line X.env=pure true:=by rfl)
 (hs:∀ x,foldedSetIterable iter X.env x=pure x:=by intro _;rfl):PS X (.Assign [.Name xn px] (.ListComp elt [⟨target,iter,[],0⟩] scope pos) spos) (Z4k (tLC fr wi g te) gx):=by
 intro pins s σ H DD I h;rw[exec_Assign_Name_used _ _ _ _ hsw];refine wpAny_bind (wpAny_standAt (wpAny_bind ?_));show wpAny _ X.A (do let _←comprehension (.ListComp elt [⟨target,iter,[],0⟩] scope pos) scope X.env _ (newList []) false (eval iter X.env) (some (assign (.Name xn px) X.env))) _ _ s;refine wpAny_bind (wpAny_mono (wpAny_comprehension_free (use:=some (assign (.Name xn px) X.env)) (Q:=λ_ s'=>SP X pins DD .next s') (g:=⟨target,iter,[],0⟩) (gs:=[]) rfl hs (Xt λp hp hk=>I.ok.has p.1 (B.free p hp hk)) B.kind B.loc (thn (hi pins s σ H _ I h) λv s1 h1=>thn h1 λitv s2 h2=>?_)) (λ_ s' hq=>wpAny_pure (wpAny_pure hq)) λ_ _ e=>e);obtain⟨it,fp,tn,J,H2,e,I2,T,st2,f2,rd⟩:=h2;subst e;obtain⟨W,⟨m0,w0⟩,turn⟩:=rd s2.heap.objs.size (I2.hok.fresh (Nat.le_refl _));refine wpAny_newObj_type (hd:=by size_fits) (wpAny_newFunctionEnv B.nocell (by intro y hy;simp at hy) (λh₁ hns₁ hsb₁=>?_) B.kind);dsimp only at hns₁ hsb₁ ⊢;generalize hH2:s2.heap.push { cls:=.type "list",dict:=none,data:=.seq ([]:List Value).toArray }=G2 at hns₁ hsb₁ ⊢;have hC:G2.objs.size=s2.heap.objs.size + 1:=by rw[←hH2,Heap.size_push]
 have hDC:s2.heap.objs.size≠G2.objs.size:=by rw[hC];exact Nat.ne_of_lt (Nat.lt_succ_self _)
 have hCle:s2.heap.objs.size≤G2.objs.size:=by rw[hC];exact Nat.le_succ _
 have old:∀ b o,s2.heap.get? b=some o→h₁.get? b=some o:=λb o e=>hsb₁.extBut b o (by rw[hC];exact Nat.ne_of_lt (Nat.lt_succ_of_lt (Heap.lt_size e))) (Heap.get?_push_of_some _ (hH2▸Heap.get?_push_of_some _ e));have hacc:h₁.get? s2.heap.objs.size=some { cls:=.type "list",data:=.seq #[] 0 }:=hsb₁.extBut _ _ hDC (Heap.get?_push_of_some _ (hH2▸Heap.get?_push_size _ rfl));have hlt:∀ b∈fp,b < s2.heap.objs.size:=λb hb=>by
  obtain⟨o,ho,_⟩:=T.obj 0 _ st2 b hb;exact Heap.lt_size ho
 have IB:=I2.block (t':=s2.toks + ([]:List (Str×Value)).length) B f2 hlt (Nat.le_refl _) hCle hDC old hns₁ hacc;have stB:tn 0 h₁:=T.keep 0 _ _ st2 λb _ o e=>old b o e;have fr0:∀ b∈fp,upd H2 s2.heap.objs.size (.lst []) b=none:=λb hb=>by
  rw[Z2 (Nat.ne_of_lt (hlt b hb))];exact (f2 b hb).1
 have sub:=X5 (env:=X.env) scope.names [] (λ_ _ q=>by simp at q);have stat:∀ {Hx:Hp},(∀ b∈fp,Hx b=none)→∀ b∈fp,X4 (ZP X scope N G2.objs.size s2 H2 fp) [] Hx b:=λhn b hb=>
  ⟨hn b hb,Nat.ne_of_lt (Nat.lt_of_lt_of_le (hlt b hb) hCle),λhm=>(List.mem_cons.mp (I2.stkSub b hm)).elim (f2 b hb).2.1 (f2 b hb).2.2.1,.inl hb,λx c e=>(f2 b hb).2.2.2.2.1 x c (sub x c e),λp hp=>nomatch hp⟩
 have loop:∀ s₃:Shared,s₃ = { s2 with heap:=h₁,toks:=s2.toks + ([]:List (Str×Value)).length }→
  codeAny (model X.prog X.w) X.A (.compLoop (.ListComp elt [⟨target,iter,[],0⟩] scope pos) 0 (.ref it) (.ref s2.heap.objs.size) (compEnvC scope (Xs scope X.env) G2.objs.size X.env))
   (compPost (model X.prog X.w) X.A X.xe (some (assign (.Name xn px) X.env)) (λ_ s'=>SP X pins DD .next s') (.ref s2.heap.objs.size) G2.objs.size) s₃:=by
  rintro s₃ rfl;refine codeAny_loop rfl (λn s'=>∃ i ys τ Hx,Inv (ZP X scope N G2.objs.size s2 H2 fp) [] τ Hx s'∧tn i s'.heap∧(∀ b∈fp,Hx b=none)∧W i n ys τ Hx) (λn s3 hI=>?_) m0 ⟨0,[],_,_,IB,stB,fr0,w0⟩;obtain⟨i,ys,τ,H3,I3,st3,fr3,w3⟩:=hI;show wpAny _ _ ((compTurn (.ListComp elt [⟨target,iter,[],0⟩] scope pos) 0 (.ref it) (.ref s2.heap.objs.size) (compEnvC scope (Xs scope X.env) G2.objs.size X.env)).onRaise (λx=>do noteFrame x (compEnvC scope (Xs scope X.env) G2.objs.size X.env);theTreesLotGoes x)) _ _ s3;refine wpAny_noted ?_;rw[compTurn_list1];refine wpAny_mono (E:=λ_ _=>False) ?_ (λ_ _ q=>q) λ_ _ z=>z.elim;refine wpAny_bind (wpAny_standAt (wpAny_bind ?_));obtain⟨hD3,sg⟩:=turn i n ys τ H3 w3
  rcases sg with⟨stop,qn⟩|⟨go,hys,Nx,hN,step⟩
  ·refine thn (T.done (ZP X scope N G2.objs.size s2 H2 fp) rfl rfl rfl hc i [] s3 τ H3 _ I3 (stat fr3) st3 stop) λr s4 zq=>?_;obtain⟨hr,I4⟩:=zq;subst hr;refine wpAny_pure ?_;obtain⟨m4,hn4,_⟩:=id I4.loc;have J:Inv X pins σ H3 s4:=I2.unblock (h':=s4.heap) f2 hCle I4 (Heap.SameBut.refl _ _);obtain⟨o4,es4,ep4,ho4,hd4,hk4⟩:=id hn4;have FC:X4 X pins H2 G2.objs.size:=I2.fpOk hCle (I2.hok.fresh hCle);have JP:Inv X (pins++[(G2.objs.size,o4)]) σ H3 s4:=J.pins_of λp hp=>(List.mem_append.mp hp).elim (λz=>J.pin p (List.mem_append_right _ z)) λz=>by
    have e:p=(G2.objs.size,o4):=by simpa using z
    subst e;exact⟨ho4,I4.free,FC.2.1,FC.2.2.1,λv e=>by rw[hd4] at e;cases e⟩
   show wpAny _ X.A (assign (.Name xn px) X.env (.ref s2.heap.objs.size)) _ _ s4;refine thn (hx _ s4 σ H3 (.ref s2.heap.objs.size) (.ref s2.heap.objs.size) _ JP rfl qn) λ_ s5 zq=>?_;obtain⟨σ5,H5,I5,q5⟩:=zq;have pc:=I5.pin (G2.objs.size,o4) (List.mem_append_right _ (List.mem_append_right _ (by simp)));exact⟨m4,⟨o4,es4,ep4,pc.1,hd4,hk4⟩,λh' hs'=>⟨σ5,H5,Inv.turned (t':=s5.toks) (it:=G2.objs.size) I5.unpinned (λb o hb e=>(hs'.2 b hb).trans e) pc.2.1 FC.2.1 FC.2.2.2.1 FC.2.2.2.2.1 FC.2.2.2.2.2,q5⟩⟩
  ·refine thn (T.item (ZP X scope N G2.objs.size s2 H2 fp) rfl rfl rfl hc i [] s3 τ H3 _ I3 (stat fr3) st3 go) λr s4 zq=>?_;obtain⟨u,hr,h4⟩:=zq;subst hr;refine wpAny_bind (thn h4 λ_ s5 zq=>?_);obtain⟨x,H5,I5,r5,y5,st5,fr5⟩:=zq;have I5':=I5.pinned (stat fr5) (T.obj _ _ st5);refine wpAny_bind (thn (hg _ _ _ _ _ s5 τ H5 x u _ I5' r5 (step x H5 y5)) λ_ s6 zq=>?_);obtain⟨τ6,H6,I6,q6⟩:=zq;refine wpAny_bind (wpAny_bind (thn (he _ _ _ _ _ s6 τ6 H6 _ I6 q6) λyv s7 zq=>?_));obtain⟨y,H7,I7,r7,hD7,n7⟩:=zq;obtain⟨m',hm',w7⟩:=hN _ _ _ n7;refine wpAny_bind (thn (Ya _ s7 τ6 H7 (.ref s2.heap.objs.size) [y] (.ref s2.heap.objs.size) [yv] (λ_ Hz=>Hz=upd H7 s2.heap.objs.size (.lst (ys++[y]))) I7 rfl (.cons r7 .nil) ⟨_,_,_,rfl,rfl,hD7,hys,rfl⟩) λ_ s8 zq=>?_);obtain⟨_,H8,I8,_,e8⟩:=zq;subst e8;refine wpAny_pure (wpAny_pure ⟨rfl,m',hm',i + 1,_,τ6,_,I8.unpinned,T.keep _ _ _ st5 λb hb o e=>(I8.pin (b,o) (List.mem_append_right _ (List.mem_append_right _ (ZO hb e)))).1,λb hb=>?_,w7⟩);obtain⟨o,e,d⟩:=T.obj _ _ st5 b hb;exact (I8.pin (b,o) (List.mem_append_right _ (List.mem_append_right _ (ZO hb e)))).2.1
 exact codeAny_compStart_list (loop _ rfl) (T.self _ 0 _ _ _ stB (loop _ rfl))
section
variable {X:Cx}
end
theorem rd_part {t:TE}{σ:St}{H:Hp}{Q:Option Int→Hp→Prop}(q:t σ H λx H1=>∃ i,x=.int i∧Q (some i) H1):Z6m t σ H Q:=q
theorem Z0T {wi:TI}{g:TG}{tb:TS}{D:Ends}{σ:St}{H:Hp}(q:wi σ H λJ H1=>∃ W:Nat→Nat→St→Hp→Prop,(∃ m,W 0 m σ H1)∧∀ i m σ H,W i m σ H→
 (J.stop i H∧D.nx σ H)∨(J.go i H∧∃ N:St→Hp→Prop,(∀ σ' H',N σ' H'→∃ m',m' < m∧W (i + 1) m' σ' H')∧∀ x H',J.yld i H x H'→g x σ H' λσ2 H2=>tb { D with nx:=N,ct:=N,bk:=D.nx } σ2 H2)):Z5u wi g tb D σ H:=q
theorem rd_sl {r:V→Option Int→Option Int→Hp→VK→Prop}{te:TE}{tl th:TO}{σ:St}{H:Hp}{Q:VK}(q:te σ H λx H1=>tl σ H1 λl H2=>th σ H2 λu H3=>r x l u H3 Q):tSl r te tl th σ H Q:=q
theorem Z1m {K:W.Frag}{a:Addr}{xs:List V}{g:TG}{tb:TS}{nx:St→Hp→Prop}{rt:VK}{σ:St}{H:Hp}(Pv:Nat→St→Hp→Prop)(h0:Pv 0 σ H)(hl:∀ i σ H,i≤xs.length→Pv i σ H→SqL K H a xs)
 (hs:∀ i x σ H,xs[i]? = some x→Pv i σ H→g x σ H λσ2 H2=>tb { nx:=Pv (i + 1),rt:=rt,bk:=nx,ct:=Pv (i + 1) } σ2 H2) (hd:∀ σ H,Pv xs.length σ H→nx σ H) :
 ∃ W:Nat→Nat→St→Hp→Prop,(∃ m,W 0 m σ H)∧∀ i m σ H,W i m σ H→
   ((Itl K a).stop i H∧nx σ H)∨((Itl K a).go i H∧∃ N:St→Hp→Prop,(∀ σ' H',N σ' H'→∃ m',m' < m∧W (i + 1) m' σ' H')∧∀ x H',(Itl K a).yld i H x H'→g x σ H' λσ2 H2=>tb { nx:=N,rt:=rt,bk:=nx,ct:=N } σ2 H2):=
 Z1X (D:={ nx:=nx,rt:=rt }) Pv h0 hl hs hd
end L2
namespace L2
open PySem PySem.Spec PyProof.Rows PySem.W
theorem ObjOk.has {P:Program}{w:World}{H:Hp}{h:Heap}{a:Addr}{o:HO}(x:ObjOk P w H h a o):∃ u,h.get? a=some u:=by
 cases o with
 | lst xs=>obtain⟨_,_,_,_,e⟩:=x;exact⟨_,e⟩
 | tup xs=>obtain⟨_,_,_,u,e,_⟩:=x;exact⟨u,e⟩
 | dK kvs=>obtain⟨_,_,_,_,u,_,_,e,_⟩:=x;exact⟨u,e⟩
 | dT kvs=>obtain⟨_,_,_,_,u,_,_,e,_⟩:=x;exact⟨u,e⟩
 | set S n=>obtain⟨u,_,_,_,e,_⟩:=x;exact⟨u,e⟩
 | ins C dx fs=>obtain⟨_,_,_,e,_⟩:=x;exact⟨_,e⟩
 | own y=>exact x
 | xd fs=>obtain⟨mA,⟨u,_,_,e,_⟩,_⟩:=x;exact⟨u,e⟩
 | met f y=>exact⟨_,x⟩
 | rng lo hi=>obtain⟨_,_,_,e⟩:=x;exact⟨_,e⟩
 | frz u y=>exact⟨_,x.1⟩
 | tbl ps=>exact⟨_,x⟩
 | ext φ=>exact x.2.1
noncomputable def Trc (h:Heap)(x C t T:Addr):Prop:=∃ oe vs oT ts,h.get? x=some oe∧oe.cls=.ref C∧oe.data=.fields vs∧vs[0]? = some (.ref t)∧vs[1]? = some (.ref T)∧T≠x∧h.get? T=some oT∧oT.data=.fields ts∧ts[3]? = some .none
noncomputable def CX1 (P:Program)(w:World):CXT:=λouter H s E e s'=>∃ (x C t T:Addr) (H':Hp),e=.ref x∧s'.os=s.os∧AllBare s'.gens∧Un (frs outer) [] H H' s.heap s'.heap∧HOk P w H' s'.heap∧
 H' x=none∧H' T=none∧s.heap.get? x=none∧s.heap.get? T=none∧Trc s'.heap x C t T∧E (.ref C) none H'
section
variable {X:Cx}{pins:List (Addr×Obj)}{σ:St}{H H':Hp}{s:Shared}
theorem JK {as:List Addr}{h':Heap}(I:Inv X pins σ H s)(hs:(hideAll s.heap (frs X.stack++as)).StaysIn h')(hn:∀ b∈as,H b=none):HOk X.prog X.w H h':=λb o e=>by
 refine (I.hok b o e).stay (λc u hc q=>hs c u (hideAll_get _ q λhm=>?_)) (λ_ q=>q) λ_ _ q=>q;have hc':∃ o',H c=some o':=by
  rcases hc with rfl|hc
  ·exact⟨_,e⟩
  ·exact⟨_,hc⟩
 obtain⟨o',ho'⟩:=hc'
 rcases List.mem_append.mp hm with z|z
 ·rw[I.stkFree c z] at ho';cases ho'
 ·rw[hn c z] at ho';cases ho'
theorem Z5v {as:List Addr}{h':Heap}(I:Inv X pins σ H s)(hx:X.ex=[])(hs:(hideAll s.heap (frs X.stack++as)).StaysIn h')(up:s.heap.UpToSlots h')(ha:∀ b∈as,X.s₀.heap.get? b=none):Un (frs X.outer) [] X.H₀ H X.s₀.heap h':=by
 have u:=I.base;rw[hx] at u;have old:∀ b o,X.s₀.heap.get? b=some o→b ∉ frs X.outer→b ∉ frs X.stack++as:=λb o e n hm=>by
  rcases List.mem_append.mp hm with z|z
  ·rcases List.mem_cons.mp (I.stkSub b z) with q|q
   ·exact absurd (Nat.lt_of_lt_of_le (Heap.lt_size e) (by rw[q];exact I.ok.above)) (Nat.lt_irrefl _)
   ·exact n q
  ·rw[ha b z] at e;cases e
 have fr:∀ b,b∈frs X.outer→∀ o,s.heap.get? b=some o→∀ vs,o.data≠.fields vs:=λb hb o e vs=>by
  obtain⟨_,o',ho',hd'⟩:=I.funs.mem hb;rw[e] at ho';cases ho';exact hd' vs
 refine⟨λb o e n hb _=>hs b o (hideAll_get _ (u.keep b o e n hb (by simp)) (old b o e hb)),λb o e n hb _=>?_,u.free,λb o e _=>?_,u.tups,u.frzs,u.tbls⟩
 ·obtain⟨sl,q⟩:=u.slot b o e n hb (by simp);obtain⟨sl',q'⟩:=up b _ q (fr b hb _ q);exact⟨sl',q'⟩
 ·obtain⟨o',q⟩:=u.there b o e (by simp)
  by_cases hb:b∈frs X.outer
  ·obtain⟨sl',q'⟩:=up b _ q (fr b hb _ q);exact⟨_,q'⟩
  ·exact⟨o',hs b o' (hideAll_get _ q (old b o e hb))⟩
theorem Z4f {x C:Addr}{args:List Value}{E:XK}{EE:Value→Shared→Prop}{g:Heap}(I:Inv X pins σ H s)(hst:X.stack=X.env::X.outer)(hf:X.env.frame=some X.env.locals)(hex:X.ex=[])
 (mk:Heap.MadeExcOf s.heap g x (.ref C) args) (q:E (.ref C) none H) :
 wpAny (model X.prog X.w) X.A (leaving X.env (.ref x)) (λ_ s''=>CX1 X.prog X.w X.outer X.H₀ X.s₀ E (.ref x) s'') EE { s with heap:=g }:=by
 have hin:∀ env∈X.stack,∀ a,env.frame=some a→a∈frs X.stack++[]:=λenv he a ha=>List.mem_append_left _ (List.mem_filterMap.mpr ⟨env,he,ha⟩);have ff:s.heap.FunFrames (hideAll s.heap (frs X.stack++[])) (X.env::X.outer):=by
  rw[←hst];exact funFrames_hide I.stack hin
 have gone:∀ b,s.heap.get? b=none→H b=none∧X.s₀.heap.get? b=none:=λb e=>by
  refine⟨?_,?_⟩
  ·cases z:H b with
   | none=>rfl
   | some o=>
     obtain⟨u,hu⟩:=ObjOk.has (I.hok b o z);rw[e] at hu;cases hu
  ·cases z:X.s₀.heap.get? b with
   | none=>rfl
   | some o=>
     obtain⟨o',q'⟩:=I.base.there b o z (by rw[hex];simp);rw[e] at q';cases q'
 refine wpAny_leaves_madeW (s:={ s with heap:=g }) (by rw[I.ok.frames,hst]) hf (λb o e=>of_hideAll _ e) ff mk λh' t fl' tup bt up=>?_;obtain⟨k1,k2,k3,oe',vs',T',oT'',ts',b1,⟨b2,b3⟩,b4,b5,b6,b7,b8,b9,b10⟩:=fl';have up':s.heap.UpToSlots h':=(Heap.UpToSlots.of_keeps mk.keeps).trans up;have hT':H T'=none∧X.s₀.heap.get? T'=none:=by
  cases e:s.heap.get? T' with
  | none=>exact gone T' e
  | some o=>
    have hmem:T'∈frs X.stack++[]:=by
     refine Decidable.byContradiction λn=>?_;rw[hideAll_get _ e n] at b6;cases b6
    rcases List.mem_append.mp hmem with z|z
    ·obtain⟨_,of,hof,hdf⟩:=I.stack.mem z;obtain⟨sl,qq⟩:=up' T' of hof hdf;rw[b8] at qq;cases qq;exact absurd b9 (hdf ts')
    ·simp at z
 obtain⟨gx,ox⟩:=gone x mk.new;exact⟨x,C,t,T',H,rfl,I.os,I.bare,Z5v I hex k1 up' (by simp),JK I k1 (by simp),gx,hT'.1,ox,hT'.2,⟨oe',vs',oT'',ts',b1,b2,b4,b3,b5,b7,b8,b9,b10⟩,q⟩
end
abbrev Z0B:List Value:=[.type "ValueError",.type "Exception",.type "BaseException",.type "object"]
theorem Z3q {K:Frag}{h:Heap}{C:Addr}{bmB:List Value}{newId:String}(Xi:K.In h)(q:excIn K C bmB newId=true) :
 ∃ tl N nm qn bs hd sn sub ab col dd k0 k1 k2 k3 k5 mN,h.get? C=some (excClassObj nm qn C N bs tl hd sn sub ab col dd k0 k1 k2 k3 k5 newId)∧h.Ns N mN∧mN "__init__" = none∧OwnTail h bmB tl:=by
 unfold excIn at q
 split at q
 ·rename_i dd cd sl look
  split at q
  ·rename_i C' tl k0 k1 k2 k3 n k5 em es;simp only[Bool.and_eq_true,beq_iff_eq,Bool.not_eq_true'] at q;obtain⟨⟨⟨⟨⟨rfl,rfl⟩,q1⟩,q2⟩,q3⟩,q4⟩:=q;obtain⟨nm,bs,mro,ns,qn,hd,sn,sub,ab,col,del⟩:=cd;dsimp only at em q1 q3 q4;subst em q1;obtain⟨l⟩:=sl;simp only at es;subst es;exact⟨tl,ns,nm,qn,bs,hd,sn,sub,ab,col,dd,k0,k1,k2,k3,k5,_,Xi _ _ look,.of_isNs (isNs_of_in Xi q3),nsMap_none_of_in Xi q3 q4,tail_of_in Xi q2⟩
  ·cases q
 ·cases q
structure Lv (X:Cx)(E:XK):Prop where
 st:X.stack=X.env::X.outer
 fr:X.env.frame=some X.env.locals
 ex:X.ex=[]
 xe:∀ ee s',wpAny (model X.prog X.w) X.A (leaving X.env ee) (λ_ s''=>CX1 X.prog X.w X.outer X.H₀ X.s₀ E ee s'') (λe' s''=>CX1 X.prog X.w X.outer X.H₀ X.s₀ E e' s'') s'→X.xe ee s'
section
variable {X:Cx}{E:XK}{ta:TA}
noncomputable def Z4V (E:XK)(C:Addr)(ta:TA):TS:=λ_ σ H=>ta σ H λvs H1=>vs.length≤100∧E (.ref C) none H1
theorem Z2I {C:Addr}{x:Str}{e:Expr}{np cpos pos:Pos}(L:Lv X E)(hc:X.calm=true)(hg:Gl X x)(hm:X.mg x=some (.ref C))(hC:excIn X.K C Z0B "ValueError.__new__" = true)(pa:PA X [e] ta)
 (hs:starEach [e] X.env=[(false,eval e X.env)]:=by rfl) (hd:(x == ("__debug__" : Str))=false:=by decide):PS X (.Raise (some (.Call (.Name x np) [e] [] cpos)) none pos) (Z4V E C ta):=by
 intro pins s σ H D I h;obtain⟨tl,N,nm,qn,bs,hd',sn,sub,ab,col,dd,k0,k1,k2,k3,k5,mN,o1,o2,o3,o4⟩:=Z3q I.ok.mod.kin hC;refine wpAny_Raise_call_subT (C:=C) (nm:=nm) (q:=qn) (N:=N) (bs:=bs) (bm:=tl) (hdct:=hd') (sn:=sn) (sub:=sub) (ab:=ab) (col:=col) (dd:=dd) (k0:=k0) (k1:=k1) (k2:=k2) (k3:=k3) (k5:=k5) PySem.F.excBase_ValueError (mN:=mN) (o4.hasType PySem.F.excBase_ValueError.hasBase) (I.ok.hd hc) (by rw[hs];rfl) o3 (YV I hg hm ⟨rfl,?_⟩ hd);have h1:=pa cpos pins s σ H _ I h;rw[hs] at h1 ⊢;refine Calls.evalArgs_plain (wpAny_mono h1 (λus s₂ zq=>?_) λ_ _ y=>y);obtain⟨vs,H2,I2,rv,len,q⟩:=zq;have ks:∀ b o,X.base.get? b=some o→s₂.heap.get? b=some o:=λb o e=>(I2.bs b o e).1;have ln:=rv.length;refine⟨rfl,small (show us.length≤1000 by omega),ks _ _ o1,o2.keeps ks,o4.keeps ks,λh' e' mk=>?_⟩;exact L.xe _ _ (Z4f I2 L.st L.fr L.ex mk q)
end
section
variable {P:Program}{w:World}{K:W.Frag}{mg:Str→Option Value}{base:Heap}
theorem Z6k {N:List Str}{qual:Str}{scope:Scope}{f:Addr}{cd:Value}{A:Around}{outer:List Env}{s:Shared}{H:Hp}{E:XK}:Lv (Xv (CX1 P w) P w K mg base N qual scope f cd A outer s H E) E:=⟨rfl,rfl,rfl,λ_ _ h=>h⟩
theorem Fun.okX {x qual:Str}{st:Stmt}{f:Addr}{fd:FuncData}{N ps:List Str}{k:Nat}{sp:Sp}(F:Fun K x qual st f fd)(S:FnScope N ps (Z3 st))(len:∀ vs H Q E,sp vs H Q E→vs.length=ps.length)
 (hbody:∀ (cdv:Value) (A:Around) (outer:List Env) (s:Shared) (H:Hp) (vs:List V) (Q:VK) (E:XK),Room k (A.deeper (envOfC qual (Z3 st) s.heap.objs.size f cdv))→sp vs H Q E→
   ∃ t,PSs (Xv (CX1 P w) P w K mg base N qual (Z3 st) f cdv A outer s H E) (Zb st) t∧t { nx:=λ_ H'=>Q .non H',rt:=Q } (start N vs) H):FnOk P w K mg base (CX1 P w) (k + 1) f fd ps sp:=by
 obtain⟨oc,od,kV,doc,pm,an,cdv,ct,osl,rfl,lk,hcd⟩:=F.ex;exact Z6q lk hcd S len λA outer s H vs Q E hr hsp=>hbody cdv A outer s H vs Q E hr hsp
end
section
variable {M:Model}{A:Around}{E:Value→Shared→Prop}
theorem Z3j {h:Heap}{g:Array GenState}{d:Drawn}{t:Nat}{os:OsState}{e C D:Addr}{oe:Obj}{Q:Bool→Shared→Prop}
 {nm q:Str}{N:Addr}{bs bm:List Value}{hdct:Bool}{sn:List Str}{sub:List Value}{ab:Bool}{col:Option Bool}{dd:Option Addr}{k0 k1 k2 k3 k5:Option Value}{newId:String}
 {nm' q':Str}{N':Addr}{bs' bm':List Value}{hdct':Bool}{sn':List Str}{sub':List Value}{ab':Bool}{col':Option Bool}{dd':Option Addr}{k0' k1' k2' k3' k5':Option Value}{newId':String}
 (hC:h.get? C=some (excClassObj nm q C N bs bm hdct sn sub ab col dd k0 k1 k2 k3 k5 newId)) (hD:h.get? D=some (excClassObj nm' q' D N' bs' bm' hdct' sn' sub' ab' col' dd' k0' k1' k2' k3' k5' newId'))
 (he:h.get? e=some oe) (hcls:oe.cls=.ref C) (hbase:bm'.contains (.type "BaseException")=true) (hb:(Value.ref C::bm).contains (.ref D)=true)
 (hq:Q true ⟨h,g,d,t,os⟩):wpAny M A (excMatches (.ref e) (.ref D)) Q E ⟨h,g,d,t,os⟩:=by
 have hcB:(Value.ref D::bm').contains (.type "BaseException")=true:=by rw[List.contains_cons,hbase,Bool.or_true]
 have f:=tc_notTuple;unfold excMatches
 repeat (first|(with_reducible refine wpAny_loadPart_at he ?_;rw[hcls])|with_reducible refine wpAny_loadPart_at hD ?_|(with_reducible refine wpAny_isSubtype_exc hD ?_;rw[hcB])|(with_reducible refine wpAny_isSubtype_exc hC ?_;rw[hb])|wp_step)
 exact hq
end
section
variable {X:Cx}{pins:List (Addr×Obj)}{σ:St}{H H':Hp}{s s':Shared}
noncomputable def Z2f (x C:Addr):HO:=.ext λh=>∃ oe vs,h.get? x=some oe∧oe.cls=.ref C∧oe.data=.fields vs
noncomputable abbrev Cx.marked (X:Cx)(x:Addr):Cx:={ X with A:=X.A.mark (some (.ref x)),calm:=false,xe:=λ_ _=>False }
theorem Inv.marked (I:Inv X pins σ H s)(x:Addr):Inv (X.marked x) pins σ H s:=
 ⟨⟨I.ok.mod,I.ok.kind,I.ok.glob,I.ok.blt,I.ok.above,I.ok.inj,I.ok.has,I.ok.cab,(λz=>nomatch z),I.ok.frames,I.ok.stk,I.ok.exf,I.ok.bs,I.ok.bsz,I.ok.noex,I.ok.exfs,I.ok.funs,I.ok.frf⟩,I.os,I.bare,I.base,I.loc,I.cell,I.free,I.freeC,I.pin,I.hok,I.len⟩
theorem Inv.unmarked {x:Addr}(J:Inv (X.marked x) pins σ H s)(ok:X.Ok):Inv X pins σ H s:=⟨ok,J.os,J.bare,J.base,J.loc,J.cell,J.free,J.freeC,J.pin,J.hok,J.len⟩
noncomputable def Z66 (K:Frag)(C:Addr):Prop:=∃ nm q N bs tl hd sn sub ab col dd k0 k1 k2 k3 k5 nid,K.lookup C=some (excClassObj nm q C N bs tl hd sn sub ab col dd k0 k1 k2 k3 k5 nid)
theorem Z3t {K:Frag}{C:Addr}{bm:List Value}{nid:String}(q:excIn K C bm nid=true):Z66 K C:=by
 unfold excIn at q
 split at q
 ·rename_i dd cd sl look
  split at q
  ·rename_i C' tl k0 k1 k2 k3 n k5 em es;simp only[Bool.and_eq_true,beq_iff_eq,Bool.not_eq_true'] at q;obtain⟨⟨⟨⟨⟨rfl,rfl⟩,q1⟩,q2⟩,q3⟩,q4⟩:=q;obtain⟨nm,bs,mro,ns,qn,hd,sn,sub,ab,col,del⟩:=cd;dsimp only at em q1;subst em q1;obtain⟨l⟩:=sl;simp only at es;subst es;exact⟨nm,qn,ns,bs,tl,hd,sn,sub,ab,col,dd,k0,k1,k2,k3,k5,_,look⟩
  ·cases q
 ·cases q
theorem Z1v {x T:Addr}{h5:Heap}(un:Un (frs X.stack) [] H H' s.heap s'.heap)(J:Inv X pins σ H' s')(hs:(hideAll s'.heap (frs X.stack++[x,T])).StaysIn h5)(up:s'.heap.UpToSlots h5)(ox:s.heap.get? x=none)(oT:s.heap.get? T=none):Un (frs X.stack) [] H H' s.heap h5:=by
 have old:∀ b o,s.heap.get? b=some o→b ∉ frs X.stack→b ∉ frs X.stack++[x,T]:=λb o e n hm=>by
  rcases List.mem_append.mp hm with z|z
  ·exact n z
  ·rcases List.mem_cons.mp z with q|q
   ·rw[q,ox] at e;cases e
   ·rw[List.mem_singleton.mp q,oT] at e;cases e
 have fr:∀ b,b∈frs X.stack→∀ o,s'.heap.get? b=some o→∀ vs,o.data≠.fields vs:=λb hb o e vs=>by
  obtain⟨_,o',ho',hd'⟩:=J.stack.mem hb;rw[e] at ho';cases ho';exact hd' vs
 refine⟨λb o e n hb _=>hs b o (hideAll_get _ (un.keep b o e n hb (by simp)) (old b o e hb)),λb o e n hb _=>?_,un.free,λb o e _=>?_,un.tups,un.frzs,un.tbls⟩
 ·obtain⟨sl,q⟩:=un.slot b o e n hb (by simp);obtain⟨sl',q'⟩:=up b _ q (fr b hb _ q);exact⟨sl',q'⟩
 ·obtain⟨o',q⟩:=un.there b o e (by simp)
  by_cases hb:b∈frs X.stack
  ·obtain⟨sl',q'⟩:=up b _ q (fr b hb _ q);exact⟨_,q'⟩
  ·exact⟨o',hs b o' (hideAll_get _ q (old b o e hb))⟩
end
end L2
namespace PySem.W
open PySem PySem.Spec PySem.Calls PyProof.Rows Builtin Builtin.ObjectAttr Builtin.Getset_descriptor
section
variable {prog:Program}{w:World}{A:Around}{E:Value→Shared→Prop}{s:Shared}{K:Frag}{x C:Addr}
end
end PySem.W
namespace L2
open PySem PySem.Spec PyProof.Rows PySem.W
section
variable {X:Cx}{K:Frag}
end
end L2
namespace PySem.W
open PySem PySem.Spec PySem.Calls PyProof.Rows Builtin Builtin.ObjectAttr Builtin.Getset_descriptor
section
variable {prog:Program}{w:World}{A:Around}{E:Value→Shared→Prop}{s:Shared}{K:Frag}{x C:Addr}
end
section
variable {prog:Program}{w:World}{A:Around}{R:Result→Shared→Prop}{h:Heap}{g:Array GenState}{d:Drawn}{t:Nat}{os:OsState}
variable {nm q:Str}{c N fI:Addr}{bs tl:List Value}{hd:Bool}{sn:List Str}{sub:List Value}{ab:Bool}{col:Option Bool}{dd:Option Addr}{k0 k1 k2 k3 k5:Option Value}{args:List Value}
end
section
variable {prog:Program}{w:World}{A:Around}{E:Value→Shared→Prop}{s:Shared}{K:Frag}{x C:Addr}
end
end PySem.W
namespace L2
open PySem PySem.Spec PyProof.Rows PySem.W
section
variable {X:Cx}{pins:List (Addr×Obj)}{σ:St}{H:Hp}{s:Shared}
theorem Inv.gone (I:Inv X pins σ H s){b:Addr}(e:s.heap.get? b=none):H b=none:=by
 cases z:H b with
 | none=>rfl
 | some o=>
   obtain⟨u,hu⟩:=(I.hok b o z).has;rw[e] at hu;cases hu
end
section
variable {X:Cx}{C:Addr}{x f:Str}{e o value:Expr}{p pos pos':Pos}{ta:TA}{te tv:TE}{E:XK}{CX:CXT}{k:Nat}{fI:Addr}{fd:FuncData}{ps:List Str}{sp:Sp}
end
section
variable {X:Cx}
end
end L2
namespace L2
open PySem PySem.Spec PyProof.Rows
section
variable {κ:Type}[DecidableEq κ]
noncomputable def ZH (kvs:List (κ×V))(k:κ):Option V:=(kvs.find? λkv=>decide (kv.1=k)).map (·.2)
noncomputable def YQ (kvs:List (κ×V))(k:κ)(v:V):List (κ×V):=
 if (kvs.any λkv=>decide (kv.1=k))=true then kvs.map (λkv=>if kv.1=k then (kv.1,v) else kv) else kvs++[(k,v)]
noncomputable def Jr (kvs:List (κ×V))(k:κ):List (κ×V):=kvs.filter λkv=>decide (kv.1≠k)
theorem Z0v {p:κ×V}{r:List (κ×V)}{k:κ}(e:p.1=k):ZH (p::r) k=some p.2:=by simp[ZH,List.find?_cons,e]
theorem Z0z {p:κ×V}{r:List (κ×V)}{k:κ}(e:¬ p.1=k):ZH (p::r) k=ZH r k:=by simp[ZH,List.find?_cons,e]
theorem XI (k:κ):∀ kvs:List (κ×V),(kvs.any λkv=>decide (kv.1=k))=(ZH kvs k).isSome
 | []=>rfl
 | p::r=>by
   rw[List.any_cons]
   by_cases e:p.1=k
   ·simp only[Z0v e,decide_eq_true e,Bool.true_or,Option.isSome_some]
   ·rw[Z0z e,decide_eq_false e,Bool.false_or];exact XI k r
theorem Z06 (kvs:List (κ×V))(k:κ)(v:V):(YQ kvs k v).length≤kvs.length + 1:=by
 unfold YQ
 split
 ·rw[List.length_map];omega
 ·rw[List.length_append,List.length_cons,List.length_nil];omega
theorem Z2h {kvs:List (κ×V)}{k:κ}(v:V)(h:ZH kvs k=none):YQ kvs k v=kvs++[(k,v)]:=by
 unfold YQ;rw[XI,h];exact if_neg (by decide)
theorem RelO.isSome_eq {o:Option V}{u:Option Value}(r:RelO o u):o.isSome=u.isSome:=by
 cases o with
 | none=>cases u with
   | none=>rfl
   | some _=>exact (show False from r).elim
 | some _=>cases u with
   | none=>exact (show False from r).elim
   | some _=>rfl
theorem KV.val {kvs:List (κ×V)}{vs:List (κ×Value)}(r:KV kvs vs)(k:κ):RelO (ZH kvs k) (valueAt vs k):=by
 unfold KV at r
 induction r with
 | nil=>exact True.intro
 | @cons p q ps qs h t ih=>
   obtain⟨h1,h2⟩:=h
   by_cases e:p.1=k
   ·have e':q.1=k:=h1.symm.trans e;have b:valueAt (q::qs) k=some q.2:=by simp[valueAt,List.find?_cons,e']
    rw[Z0v e,b];exact h2
   ·have e':¬ q.1=k:=λz=>e (h1.trans z);have b:valueAt (q::qs) k=valueAt qs k:=by simp[valueAt,List.find?_cons,e']
    rw[Z0z e,b];exact ih
theorem KV.any {kvs:List (κ×V)}{vs:List (κ×Value)}(r:KV kvs vs)(k:κ):(kvs.any λkv=>decide (kv.1=k))=vs.any λkv=>decide (kv.1=k):=by
 unfold KV at r
 induction r with
 | nil=>rfl
 | cons h t ih=>rw[List.any_cons,List.any_cons,ih,h.1]
theorem KV.repl {kvs:List (κ×V)}{vs:List (κ×Value)}(r:KV kvs vs)(k:κ){y:V}{u:Value}(ry:RelV y u) :
 KV (kvs.map λkv=>if kv.1=k then (kv.1,y) else kv) (vs.map λkv=>if kv.1=k then (kv.1,u) else kv):=by
 unfold KV at r ⊢
 induction r with
 | nil=>exact .nil
 | @cons p q ps qs h t ih=>
   rw[List.map_cons,List.map_cons];refine .cons ?_ ih;obtain⟨h1,h2⟩:=h
   by_cases e:p.1=k
   ·rw[if_pos e,if_pos (h1.symm.trans e)];exact⟨h1,ry⟩
   ·rw[if_neg e,if_neg (λz=>e (h1.trans z))];exact⟨h1,h2⟩
theorem KV.put {kvs:List (κ×V)}{vs:List (κ×Value)}(r:KV kvs vs)(k:κ){y:V}{u:Value}(ry:RelV y u):KV (YQ kvs k y) (stored vs k u):=by
 unfold YQ stored;rw[r.any k]
 by_cases e:(vs.any λkv=>decide (kv.1=k))=true
 ·rw[if_pos e,if_pos e];exact r.repl k ry
 ·rw[if_neg e,if_neg e];exact Paired.snoc r ⟨rfl,ry⟩
theorem KV.drop {kvs:List (κ×V)}{vs:List (κ×Value)}(r:KV kvs vs)(k:κ):KV (Jr kvs k) (without vs k):=by
 unfold KV at r ⊢;unfold Jr without
 induction r with
 | nil=>exact .nil
 | @cons p q ps qs h t ih=>
   obtain⟨h1,h2⟩:=h;rw[List.filter_cons,List.filter_cons]
   by_cases e:p.1=k
   ·have a:¬ decide (p.1≠k)=true:=by simp[e]
    have b:¬ decide (q.1≠k)=true:=by simp[h1.symm.trans e]
    rw[if_neg a,if_neg b];exact ih
   ·have e':¬ q.1=k:=λz=>e (h1.trans z);have a:decide (p.1≠k)=true:=by simp[e]
    have b:decide (q.1≠k)=true:=by simp[e']
    rw[if_pos a,if_pos b];exact .cons ⟨h1,h2⟩ ih
theorem KV.length {kvs:List (κ×V)}{vs:List (κ×Value)}(r:KV kvs vs):kvs.length=vs.length:=Paired.length r
theorem Z60 (kvs:List (κ×V))(k:κ):(Jr kvs k).length≤kvs.length:=List.length_filter_le _ _
end
theorem Jp {P:Program}{w:World}{k:Key}{u:Value}(r:RelV (kV k) u):(Zv P w).is k u=true:=by
 cases k with
 | inl i=>obtain⟨t,e⟩:=(show ∃ t,u=Value.int i t from r);subst e;exact Z34 P w i t
 | inr x=>obtain⟨t,e⟩:=(show ∃ t,u=Value.str x t from r);subst e;exact Z30 P w x t
theorem Z1z {P:Program}{w:World}:∀ {ks:List Key}{us:List Value},Vals (ks.map kV) us→ItemsAre (Zv P w) ks us
 | [],_,r=>by rw[List.map_nil] at r;cases r;exact .nil
 | k::ks,_,r=>by
   rw[List.map_cons] at r;cases r with
   | cons h t=>exact .cons (Jp h) (Z1z t)
noncomputable abbrev KT (H:Hp):List (List Key×V)→List (List Key×Addr×Value)→Prop:=Paired λp q=>p.1=q.1∧H q.2.1=some (.tup (p.1.map kV))∧RelV p.2 q.2.2
theorem KT.val {H:Hp}{kvs:List (List Key×V)}{xs:List (List Key×Addr×Value)}(r:KT H kvs xs)(k:List Key):RelO (ZH kvs k) ((atKey xs k).map (·.2)):=by
 induction r with
 | nil=>exact True.intro
 | @cons p q ps qs h t ih=>
   obtain⟨h1,_,h2⟩:=h
   by_cases e:p.1=k
   ·have e':q.1=k:=h1.symm.trans e;have b:atKey (q::qs) k=some q.2:=by simp[atKey,List.find?_cons,e']
    rw[Z0v e,b];exact h2
   ·have e':¬ q.1=k:=λz=>e (h1.trans z);have b:atKey (q::qs) k=atKey qs k:=by simp[atKey,List.find?_cons,e']
    rw[Z0z e,b];exact ih
theorem KT.repl {H:Hp}{kvs:List (List Key×V)}{xs:List (List Key×Addr×Value)}(r:KT H kvs xs)(k:List Key){y:V}{u:Value}(ry:RelV y u) :
 KT H (kvs.map λkv=>if kv.1=k then (kv.1,y) else kv) (xs.map (putAt k u)):=by
 induction r with
 | nil=>exact .nil
 | @cons p q ps qs h t ih=>
   rw[List.map_cons,List.map_cons];refine .cons ?_ ih;obtain⟨h1,h2,h3⟩:=h;unfold putAt
   by_cases e:p.1=k
   ·rw[if_pos e,if_pos (h1.symm.trans e)];exact⟨h1,h2,ry⟩
   ·rw[if_neg e,if_neg (λz=>e (h1.trans z))];exact⟨h1,h2,h3⟩
theorem KT.put {H:Hp}{kvs:List (List Key×V)}{xs:List (List Key×Addr×Value)}(r:KT H kvs xs)(k:List Key){b:Addr}{y:V}{u:Value}(hb:H b=some (.tup (k.map kV)))(ry:RelV y u) :
 KT H (YQ kvs k y) (storedH xs k b u):=by
 have e:(kvs.any λkv=>decide (kv.1=k))=(atKey xs k).isSome:=by
  rw[XI,(r.val k).isSome_eq,Option.isSome_map]
 unfold YQ storedH;rw[e]
 by_cases q:(atKey xs k).isSome=true
 ·rw[if_pos q,if_pos q];exact r.repl k ry
 ·rw[if_neg q,if_neg q];exact Paired.snoc r ⟨rfl,hb,ry⟩
theorem KT.keeps {H H':Hp}{kvs:List (List Key×V)}{xs:List (List Key×Addr×Value)}(r:KT H kvs xs)(ht:∀ b ys,H b=some (.tup ys)→H' b=some (.tup ys)):KT H' kvs xs:=
 Paired.mapP r λ_ _ z=>⟨z.1,ht _ _ z.2.1,z.2.2⟩
section
variable {P:Program}{w:World}{H:Hp}{h:Heap}{a:Addr}
theorem Z6s {u:HO}(ok:HOk P w H h)(e:Rd H a u):ObjOk P w H h a u:=e.ok ok
theorem Xx {kvs:List (Key×V)}(ok:HOk P w H h)(e:Rd H a (.dK kvs)):kvs.length≤sizeLine∧(a == sysModules)=false∧∃ vs,KV kvs vs∧h.DictOf (Zv P w) a vs:=
 show ObjOk P w H h a (.dK kvs) from Z6s ok e
theorem Z41 {kvs:List (Key×V)}(ok:HOk P w H h)(e:H a=some (.dK kvs)):kvs.length≤sizeLine∧(a == sysModules)=false∧∃ vs,KV kvs vs∧h.DictOf (Zv P w) a vs:=Xx ok (.inl e)
theorem JT {ks:List Key}(ok:HOk P w H h)(e:H a=some (.tup (ks.map kV))):(tupleKind (Zv P w)).is h ks a:=by
 obtain⟨_,its,r,o,h1,h2,n,h3⟩:=(show ObjOk P w H h a (.tup (ks.map kV)) from ok a _ e);exact⟨o,its.toArray,n,h1,h2,h3,by simpa using Z1z r⟩
theorem JW {kvs:List (List Key×V)}(ok:HOk P w H h)(e:Rd H a (.dT kvs)):kvs.length≤sizeLine∧(a == sysModules)=false∧
 ∃ xs,KT H kvs xs∧h.DictOfH (tupleKind (Zv P w)) a xs:=by
 obtain⟨z,y,xs,r,o,es,ep,h1,h2,h3,h4,h5⟩:=(show ObjOk P w H h a (.dT kvs) from Z6s ok e);refine⟨z,y,xs,r,o,es,ep,h1,h2,h3,h4,λx hx=>?_,h5⟩;have all:∀ {l:List (List Key×V)}{m:List (List Key×Addr×Value)},KT H l m→∀ x∈m,(tupleKind (Zv P w)).is h x.1 x.2.1:=by
  intro l m q
  induction q with
  | nil=>intro x hx;exact nomatch hx
  | @cons p q ps qs hq t ih=>
    intro x hx
    rcases List.mem_cons.mp hx with e|hx
    ·subst e;exact JT ok (by rw[←hq.1];exact hq.2.1)
    ·exact ih x hx
 exact all r x hx
theorem Z88 {kvs:List (List Key×V)}(ok:HOk P w H h)(e:H a=some (.dT kvs)):kvs.length≤sizeLine∧(a == sysModules)=false∧
 ∃ xs,KT H kvs xs∧h.DictOfH (tupleKind (Zv P w)) a xs:=JW ok (.inl e)
end
noncomputable def DGet (H:Hp)(a:Addr)(y:V)(r:Option V):Prop:=
 (∃ kvs k,Rd H a (.dK kvs)∧y=kV k∧r=ZH kvs k)∨∃ kvs k b,Rd H a (.dT kvs)∧y=.ref b∧H b=some (.tup (k.map kV))∧r=ZH kvs k
noncomputable def DPut (H:Hp)(a:Addr)(y v:V)(H':Hp):Prop:=
 (∃ kvs k,H a=some (.dK kvs)∧y=kV k∧kvs.length < sizeLine∧H'=upd H a (.dK (YQ kvs k v)))∨
 ∃ kvs k b,H a=some (.dT kvs)∧y=.ref b∧H b=some (.tup (k.map kV))∧kvs.length < sizeLine∧H'=upd H a (.dT (YQ kvs k v))
theorem DGet.k {H:Hp}{a:Addr}{kvs:List (Key×V)}{k:Key}(e:H a=some (.dK kvs)):DGet H a (kV k) (ZH kvs k):=.inl ⟨kvs,k,.inl e,rfl,rfl⟩
theorem DPut.k {H:Hp}{a:Addr}{kvs:List (Key×V)}{k:Key}{v:V}(e:H a=some (.dK kvs))(hl:kvs.length < sizeLine):DPut H a (kV k) v (upd H a (.dK (YQ kvs k v))):=.inl ⟨kvs,k,e,rfl,hl,rfl⟩
section
variable {X:Cx}{pins:List (Addr×Obj)}{σ:St}{H:Hp}{s:Shared}{a:Addr}{y v:V}{u r:Value}{o:Option V}{A:Around}{E:Value→Shared→Prop}
theorem Inv.big (I:Inv X pins σ H s):sysModules < s.heap.objs.size:=by
 have h:mainGlobals < s.heap.objs.size:=(I.mod.glob.keeps I.bk).lt;exact Nat.lt_trans (by decide) h
theorem Z5n {Q:Value→Shared→Prop}(hu:A.units + 1 < cLine)(I:Inv X pins σ H s)(g:DGet H a y (some v))(ry:RelV y u)(h:∀ w' s',Inv X pins σ H s'→RelV v w'→Q w' s') :
 wpAny (model X.prog X.w) A (getItem (.ref a) u) Q E s:=by
 rcases g with⟨kvs,k,e,ey,l⟩|⟨kvs,k,b,e,ey,eb,l⟩
 ·subst ey;obtain⟨z,hd,vs,rel,dd⟩:=Xx I.hok e;obtain⟨w',hw,rw'⟩:=RelO.some_of (v:=v) (o:=valueAt vs k) (by rw[l];exact rel.val k);exact wpAny_getItem_of (Jp ry) dd.mapOf hw (h w' _ (I.tok _) rw')
 ·subst ey;cases (show u=Value.ref b from ry);obtain⟨z,hd,xs,rel,dd⟩:=JW I.hok e;obtain⟨w',hw,rw'⟩:=RelO.some_of (v:=v) (o:=(atKey xs k).map (·.2)) (by rw[l];exact rel.val k);obtain⟨p,hp,hp2⟩:=Option.map_eq_some_iff.mp hw;refine wpAny_getItem_heap (tupleKind_room_in1 hu) (JT I.hok eb) dd hp ?_;rw[hp2];exact h w' _ (I.tok _) rw'
theorem Z8q {Q:Value→Shared→Prop}(hu:A.units + 1 < cLine)(I:Inv X pins σ H s)(g:DGet H a y o)(ry:RelV y u)(h:∀ s',Inv X pins σ H s'→Q (.bool o.isSome) s') :
 wpAny (model X.prog X.w) A (compareOp .In u (.ref a)) Q E s:=by
 rcases g with⟨kvs,k,e,ey,l⟩|⟨kvs,k,b,e,ey,eb,l⟩
 ·subst ey;obtain⟨z,hd,vs,rel,dd⟩:=Xx I.hok e;refine wpAny_in_of (Jp ry) hd dd.mapOf ?_;rw[←(rel.val k).isSome_eq,←l];exact h _ (I.tok _)
 ·subst ey;cases (show u=Value.ref b from ry);obtain⟨z,hd,xs,rel,dd⟩:=JW I.hok e;refine wpAny_in_heap (tupleKind_room_in1 hu) (JT I.hok eb) hd dd ?_;have q:=(rel.val k).isSome_eq;rw[Option.isSome_map] at q;rw[←q,←l];exact h _ (I.tok _)
theorem Z6Q {Q:Value→Shared→Prop}(hu:A.units + 1 < cLine)(I:Inv X pins σ H s)(g:DGet H a y o)(ry:RelV y u)(h:∀ s',Inv X pins σ H s'→Q (.bool (!o.isSome)) s') :
 wpAny (model X.prog X.w) A (compareOp .NotIn u (.ref a)) Q E s:=by
 rcases g with⟨kvs,k,e,ey,l⟩|⟨kvs,k,b,e,ey,eb,l⟩
 ·subst ey;obtain⟨z,hd,vs,rel,dd⟩:=Xx I.hok e;refine wpAny_notIn_of (Jp ry) hd dd.mapOf ?_;rw[←(rel.val k).isSome_eq,←l];exact h _ (I.tok _)
 ·subst ey;cases (show u=Value.ref b from ry);obtain⟨z,hd,xs,rel,dd⟩:=JW I.hok e;refine wpAny_notIn_heap (tupleKind_room_in1 hu) (JT I.hok eb) hd dd ?_;have q:=(rel.val k).isSome_eq;rw[Option.isSome_map] at q;rw[←q,←l];exact h _ (I.tok _)
theorem Z0Y {h':Heap}{t':Nat}{ob:HO}(I:Inv X pins σ H s)(mu:Mut (H a))(hs:Heap.SameBut a s.heap h')(he:∃ q,h'.get? a=some q)(new:ObjOk X.prog X.w (upd H a ob) h' a ob) :
 Inv X pins σ (upd H a ob) { s with heap:=h',toks:=t' }:=
 I.write (x:=a) (e:=a) mu (.inl rfl) (λb q hb z=>(hs.2 b hb).trans z) he new
theorem Z2N {P:Program}{w:World}{H':Hp}{h':Heap}{kvs:List (Key×V)}{vs:List (Key×Value)}(z:kvs.length≤sizeLine)(hd:(a == sysModules)=false)(rel:KV kvs vs)(dd:h'.DictOf (Zv P w) a vs) :
 ObjOk P w H' h' a (.dK kvs):=⟨z,hd,vs,rel,dd⟩
theorem Z4Y {H':Hp}{Q:Unit→Shared→Prop}(hu:A.units + 1 < cLine)(I:Inv X pins σ H s)(g:DPut H a y v H')(ry:RelV y u)(rv:RelV v r)(h:∀ s',Inv X pins σ H' s'→Q () s') :
 wpAny (model X.prog X.w) A (setItem (.ref a) u r) Q E s:=by
 rcases g with⟨kvs,k,e,ey,l,eH⟩|⟨kvs,k,b,e,ey,eb,l,eH⟩
 ·subst ey eH;obtain⟨z,hd,vs,rel,dd⟩:=Z41 I.hok e;have hz:vs.length≤sizeLine:=by rw[←rel.length];exact z
  have hl:(YQ kvs k v).length≤sizeLine:=by have:=Z06 kvs k v;omega
  refine wpAny_setItem_pairs (hsz:=hz) (Jp ry) dd λh' dd' hs=>h _ ?_;have he:∃ q,h'.get? a=some q:=let ⟨q,_,_,hq,_⟩:=dd';⟨q,hq⟩
  exact Z0Y I (by rw[e];exact True.intro) hs he (Z2N hl hd (rel.put k rv) dd')
 ·subst ey eH;cases (show u=Value.ref b from ry);obtain⟨z,hd,xs,rel,dd⟩:=Z88 I.hok e;have hz:xs.length≤sizeLine:=by rw[←Paired.length rel];exact z
  have hl:(YQ kvs k v).length≤sizeLine:=by have:=Z06 kvs k v;omega
  refine wpAny_setItem_heap (hsz:=hz) (tupleKind_room_in1 hu) (JT I.hok eb) dd λh' dd' hs=>h _ ?_;obtain⟨q,es,ep,hq,h2,h3,h4,_,h5⟩:=dd';refine Z0Y I (by rw[e];exact True.intro) hs ⟨q,hq⟩ ⟨hl,hd,_,(rel.put k eb rv).keeps λc ys ec=>?_,q,es,ep,hq,h2,h3,h4,h5⟩;rw[Z2 (Zi ec e (λz=>nomatch z))];exact ec
end
section
variable {X:Cx}{pins:List (Addr×Obj)}{σ:St}{H:Hp}{s:Shared}{a:Addr}{kvs:List (Key×V)}{k:Key}{u:Value}{A:Around}{E:Value→Shared→Prop}
theorem Z81 {v:V}{more:List Value}{Q:Value→Shared→Prop}(I:Inv X pins σ H s)(e:H a=some (.dK kvs))(ry:RelV (kV k) u)(l:ZH kvs k=some v)(hm:more=[]∨∃ x,more=[x])
 (h:∀ w' s',Inv X pins σ (upd H a (.dK (Jr kvs k))) s'→RelV v w'→Q w' s'):wpAny (model X.prog X.w) A (call (.builtin "dict.pop") (.ref a::u::more)) Q E s:=by
 obtain⟨z,hd,vs,rel,dd⟩:=Z41 I.hok e;obtain⟨w',hw,rw'⟩:=RelO.some_of (v:=v) (o:=valueAt vs k) (by rw[←l];exact rel.val k);have hp:(keyPart u).isSome=true:=by
  cases k with
  | inl i=>obtain⟨t,q⟩:=(show ∃ t,u=Value.int i t from ry);subst q;rfl
  | inr x=>obtain⟨t,q⟩:=(show ∃ t,u=Value.str x t from ry);subst q;rfl
 have ha:argsOk "dict.pop" ⟨.ref a::u::more,[]⟩:=by
  rcases hm with q|⟨x,q⟩
  ·subst q;exact PySem.F.args_dict_pop_2 _ _
  ·subst q;exact PySem.F.args_dict_pop_3 _ _ _
 refine call_meetsIn PySem.F.slot_dict_pop dd.typeIs PySem.F.entry_dict_pop ha (meets_dict_pop_there (Zv X.prog X.w) a (Jp ry) more hm hp)
  ⟨vs,w',dd,by rw[←rel.length];exact z,hw,λh' dd' hs=>h w' _ ?_ rw'⟩
 have he:∃ q,h'.get? a=some q:=let ⟨q,_,_,hq,_⟩:=dd';⟨q,hq⟩
 exact Z0Y I (by rw[e];exact True.intro) hs he (Z2N (Nat.le_trans (Z60 kvs k) z) hd (rel.drop k) dd')
theorem Z7Z {Q:Value→Shared→Prop}(I:Inv X pins σ H s)(e:Rd H a (.dK kvs))(h:∀ t s',Inv X pins σ H s'→Q (.int kvs.length t) s'):wpAny (model X.prog X.w) A (call (.builtin "len") [.ref a]) Q E s:=by
 obtain⟨z,hd,vs,rel,dd⟩:=Xx I.hok e;refine call_len_dict hd dd (by rw[←rel.length];rw[sizeLine_eq] at z;omega) ?_;rw[←rel.length];exact h _ _ (I.tok _)
end
noncomputable def Z6i (i:Expr):Prop:=∀ ov iv,subscripted i false ov iv=operate [ov,iv] (getItem ov iv)
theorem Z3v {prog:Program}{w:World}{A:Around}{E:Value→Shared→Prop}{s:Shared}{env:Env}{value slice:Expr}{pos:Pos}{T id:String}{Q:Value→Shared→Prop}
 (hl:typeLookup (.type T) "__getitem__" = pure (some (.builtin id))) (hs:Z6i slice)
 (h:wpAny (model prog w) A (eval value env) (λo s₁=>wpAny (model prog w) A (eval slice env) (λi s₂=>s₂.TypeIs o T∧wpAny (model prog w) A (getItem o i) Q E s₂) E s₁) E s) :
 wpAny (model prog w) A (eval (.Subscript value slice pos) env) Q E s:=by
 refine Subscript_ (wpAny_mono h (λo s₁ h₁=>wpAny_mono h₁ (λi s₂ h₂=>?_) λ_ _ x=>x) λ_ _ x=>x);obtain⟨hT,h₂⟩:=h₂;unfold subscriptTail;refine wpAny_bind ?_;rw[getitemInPython_of_ne hT.not_modules];refine wpAny_bind (wpAny_specialOf hT hl ?_);have fin:wpAny (model prog w) A (subscripted slice false o i) (λr s₃=>wpAny (model prog w) A (letTemporaryGo value o r >>= λ_=>pure r) Q E s₃) E s₂:=by
  rw[hs o i];exact wpAny_operating (wpAny_mono h₂ (λr s₃ h₃=>wpAny_bind (wpAny_letTemporaryGo (wpAny_pure h₃))) λ_ _ x=>x)
 first
  | exact wpAny_pure (wpAny_bind fin)
  | exact wpAny_bind (wpAny_pure (wpAny_bind fin))
  | exact wpAny_bind fin
theorem Z3e {X:Cx}{pins:List (Addr×Obj)}{σ:St}{H:Hp}{s:Shared}{a:Addr}{y:V}{o:Option V}(I:Inv X pins σ H s)(g:DGet H a y o):s.TypeIs (.ref a) "dict":=by
 rcases g with⟨kvs,k,e,_,_⟩|⟨kvs,k,b,e,_,_,_⟩
 ·obtain⟨_,_,vs,_,dd⟩:=Xx I.hok e;exact dd.typeIs
 ·obtain⟨_,_,xs,_,dd⟩:=JW I.hok e;exact dd.typeIs
noncomputable def Z6t (td ty:TE):TE:=λσ H Q=>td σ H λx H1=>ty σ H1 λy H2=>∃ a v,x=.ref a∧DGet H2 a y (some v)∧Q v H2
noncomputable def Z6l (td ty tv:TE):TS:=λD σ H=>tv σ H λv H1=>td σ H1 λx H2=>ty σ H2 λy H3=>∃ a H4,x=.ref a∧DPut H3 a y v H4∧D.nx σ H4
section
variable {X:Cx}{o i e value:Expr}{pos pos' tpos:Pos}{td ty tv:TE}
theorem J4 (hu:X.A.units + 1 < cLine)(ho:PE X o td)(hi:PE X i ty)(hs:Z6i i):PE X (.Subscript o i pos) (Z6t td ty):=by
 intro pins s σ H Q I h;refine Z3v PySem.F.slot_dict_getitem.lookup hs (thn (ho pins s σ H _ I h) λu s1 ⟨x,H1,I1,rx,q1⟩=>thn (hi pins s1 σ H1 _ I1 q1) λiv s2 zq=>?_);obtain⟨y,H2,I2,ry,a,v,ex,g,q2⟩:=zq;subst ex;obtain rfl:u=Value.ref a:=rx;exact⟨Z3e I2 g,Z5n hu I2 g ry λw' s3 I3 rw'=>⟨v,H2,I3,rw',q2⟩⟩
theorem JY (hu:X.A.units + 1 < cLine)(ho:PE X o td)(hi:PE X i ty)(hv:PE X value tv)(hs:swapsWith value (some (.Subscript o i pos')) pos.line X.env=pure false) :
 PS X (.Assign [.Subscript o i pos'] value pos) (Z6l td ty tv):=by
 intro pins s σ H D I h;refine wpAny_Assign_Subscript (thn (hv pins s σ H _ I h) λr s1 ⟨v,H1,I1,rv,q1⟩=>thn (ho pins s1 σ H1 _ I1 q1) λu s2 ⟨x,H2,I2,rx,q2⟩=>thn (hi pins s2 σ H2 _ I2 q2) λiv s3 zq=>?_) hs;obtain⟨y,H3,I3,ry,a,H4,ex,g,q3⟩:=zq;subst ex;obtain rfl:u=Value.ref a:=rx;exact Z4Y hu I3 g ry rv λs4 I4=>⟨σ,H4,I4,q3⟩
end
theorem Z5r {P:Program}{w:World}{H:Hp}(h:Heap)(hb:sysModules < h.objs.size):ObjOk P w H (h.push { cls:=.type "dict",data:=.dict #[] }) h.objs.size (.dK []):=
 ⟨Nat.zero_le _,beq_eq_false_iff_ne.mpr (Ne.symm (Nat.ne_of_lt hb)),[],.nil,Heap.DictOf.new h⟩
theorem Z5Y {P:Program}{w:World}{H:Hp}(h:Heap)(hb:sysModules < h.objs.size):ObjOk P w H (h.push { cls:=.type "dict",data:=.dict #[] }) h.objs.size (.dT []):=
 ⟨Nat.zero_le _,beq_eq_false_iff_ne.mpr (Ne.symm (Nat.ne_of_lt hb)),[],.nil,_,#[],0,Heap.get?_push_size _ rfl,⟨rfl,rfl,rfl⟩,rfl,rfl,List.nodup_nil⟩
noncomputable def Z7v:TE:=λ_ H Q=>∀ p,H p=none→Q (.ref p) (upd H p (.dK []))
noncomputable def Z7L:TE:=λ_ H Q=>∀ p,H p=none→Q (.ref p) (upd H p (.dT []))
section
variable {X:Cx}{pos:Pos}
theorem Z0t:PE X (.Dict [] [] pos) Z7v:=λpins s σ H Q I h=>
 wpAny_Dict_empty ⟨.ref s.heap.objs.size,_,I.laid (a:=s.heap.objs.size) (o:=.dK []) (t':=s.toks) (λ_ _ q=>Heap.get?_push_of_some _ q) (Nat.le_refl _) (Z5r s.heap I.big),rfl,h _ (I.hok.fresh (Nat.le_refl _))⟩
theorem Z2i:PE X (.Dict [] [] pos) Z7L:=λpins s σ H Q I h=>
 wpAny_Dict_empty ⟨.ref s.heap.objs.size,_,I.laid (a:=s.heap.objs.size) (o:=.dT []) (t':=s.toks) (λ_ _ q=>Heap.get?_push_of_some _ q) (Nat.le_refl _) (Z5Y s.heap I.big),rfl,h _ (I.hok.fresh (Nat.le_refl _))⟩
end
structure M1 (X:Cx)(o:Expr)(m:Str)(apos:Pos)(e:Expr)(cpos:Pos):Prop where
 base:attributeBase o m X.env (eval o X.env)=eval o X.env
 few:((backTo cpos (starEach [e] X.env)).all (λx=>!x.1) && (backToKw cpos (keywordEach [] X.env)).all (λx=>x.1.isSome)
  && decide (([e]:List Expr).length + ([]:List Keyword).length + (if ([]:List Keyword).isEmpty then 0 else 1) < 30))=true
 line:(apos.endLine == cpos.line)=true
 trees:backTo cpos (starEach [e] X.env)=[(false,eval e X.env)]
noncomputable def IsD (H:Hp)(a:Addr):Prop:=(∃ kvs,Rd H a (.dK kvs))∨∃ kvs,Rd H a (.dT kvs)
theorem Z5d {X:Cx}{pins:List (Addr×Obj)}{σ:St}{H:Hp}{s:Shared}{a:Addr}(I:Inv X pins σ H s)(d:IsD H a) :
 s.TypeIs (.ref a) "dict"∧(∀ b,Value.ref a=.ref b→∃ ob,s.heap.get? b=some ob∧ob.dict=none)∧(a == sysModules)=false:=by
 rcases d with⟨kvs,e⟩|⟨kvs,e⟩
 ·obtain⟨_,hd,vs,_,dd⟩:=Xx I.hok e;refine⟨dd.typeIs,λb q=>?_,hd⟩;cases q;obtain⟨ob,_,_,h1,h2,_⟩:=dd;exact⟨ob,h1,h2.2.1⟩
 ·obtain⟨_,hd,xs,_,dd⟩:=JW I.hok e;refine⟨dd.typeIs,λb q=>?_,hd⟩;cases q;obtain⟨ob,_,_,h1,h2,_⟩:=dd;exact⟨ob,h1,h2.2.1⟩
section
variable {X:Cx}{pins:List (Addr×Obj)}{σ:St}{H:Hp}{s:Shared}{a:Addr}{y d:V}{u r:Value}{o:Option V}{A:Around}{E:Value→Shared→Prop}
end
noncomputable def Z7f (td ty:TE):TE:=λσ H Q=>td σ H λx H1=>∃ a,x=.ref a∧IsD H1 a∧ty σ H1 λy H2=>∃ kvs k v,H2 a=some (.dK kvs)∧y=kV k∧ZH kvs k=some v∧Q v (upd H2 a (.dK (Jr kvs k)))
section
variable {X:Cx}{o e f:Expr}{apos cpos:Pos}{td ty tx:TE}
theorem Z6h (ho:PE X o td)(he:PE X e ty)(m:M1 X o "pop" apos e cpos):PE X (.Call (.Attribute o "pop" apos) [e] [] cpos) (Z7f td ty):=by
 intro pins s σ H Q I h;refine wpAny_Call_method m.base m.few m.line PySem.F.plainAttrs_dict PySem.F.slot_dict_pop PySem.F.type_dict_pop (thn (ho pins s σ H _ I h) λu s1 zq=>?_);obtain⟨x,H1,I1,rx,a,ex,d,q1⟩:=zq;subst ex;obtain rfl:u=Value.ref a:=rx;obtain⟨t1,t2,_⟩:=Z5d I1 d;refine⟨t1,t2,?_⟩;rw[m.trees];refine Calls.callWith_builtin rfl (Calls.evalArgs_plain (Calls.spliced_cons (thn (he pins s1 σ H1 _ I1 q1) λiv s2 ⟨y,H2,I2,ry,kvs,k,v,ea,ey,l,q2⟩=>Calls.spliced_nil ?_)));subst ey;exact Z81 I2 ea ry l (.inl rfl) λw' s3 I3 rw'=>⟨v,_,I3,rw',q2⟩
end
section
variable {X:Cx}{pins:List (Addr×Obj)}{σ:St}{H:Hp}{s:Shared}{a:Addr}{kvs:List (Key×V)}{A:Around}{E:Value→Shared→Prop}
theorem Z67 {Q:Value→Shared→Prop}(I:Inv X pins σ H s)(e:Rd H a (.dK kvs))(h:∀ p s',H p=none→Inv X pins σ (upd H p (.dK kvs)) s'→Q (.ref p) s'):wpAny (model X.prog X.w) A (call (.type "dict") [.ref a]) Q E s:=by
 obtain⟨z,hd,vs,rel,dd⟩:=Xx I.hok e;refine kt_call_dict hd dd (by rw[←rel.length];exact z) λh' dd' hs=>?_;refine h _ _ (I.hok.fresh (Nat.le_refl _)) (I.laid (a:=s.heap.objs.size) (o:=.dK kvs) (t':=s.toks) (λb q hq=>?_) (Nat.le_refl _) (Z2N z (beq_eq_false_iff_ne.mpr (Ne.symm (Nat.ne_of_lt I.big))) rel dd'));exact (hs.2 b (Nat.ne_of_lt (Heap.lt_size hq))).trans (Heap.get?_push_of_some _ hq)
end
section
variable {X:Cx}{pins:List (Addr×Obj)}{σ:St}{H:Hp}{s:Shared}{a:Addr}{y:V}{u:Value}{A:Around}{E:Value→Shared→Prop}
end
section
variable {X:Cx}
theorem Z5m:YK X (.builtin "len") (λxs H Q=>∃ a kvs,xs=[V.ref a]∧H a=some (.dK kvs)∧Q (.int kvs.length) H):=by
 intro pins s σ H xs us Q I r h;obtain⟨a,kvs,rfl,ha,q⟩:=h;obtain⟨u,rfl,ru⟩:=Xc r;cases ru;exact Z7Z I (.inl ha) λt s' I'=>⟨.int kvs.length,H,I',⟨t,rfl⟩,q⟩
end
section
variable {κ:Type}[DecidableEq κ]
theorem Z62 {kvs:List (κ×V)}{k:κ}(h:ZH kvs k=none):¬ k∈kvs.map (·.1):=by
 intro m;obtain⟨p,hp,e⟩:=List.mem_map.mp m;have q:(kvs.any λkv=>decide (kv.1=k))=true:=List.any_eq_true.mpr ⟨p,hp,decide_eq_true e⟩;rw[XI,h] at q;exact absurd q (by simp)
theorem Z6X {kvs:List (κ×V)}{k:κ}{v:V}(h:ZH kvs k=some v):k∈kvs.map (·.1):=by
 have q:(kvs.any λkv=>decide (kv.1=k))=true:=by
  rw[XI,h]
  all_goals rfl
 obtain⟨p,hp,e⟩:=List.any_eq_true.mp q;exact List.mem_map.mpr ⟨p,hp,of_decide_eq_true e⟩
end
end L2
namespace L2
open PySem PySem.Spec PyProof.Rows PySem.W
noncomputable def Its (x:Str):It:=⟨λi _=>i < x.cps.size,λi H v H'=>H'=H∧∃ c,x.cps[i]? = some c∧v=.str ⟨#[c]⟩,λi _=>x.cps.size≤i⟩
theorem Z5G {P:Program}{w:World}{K:Frag}{tg:Expr}{ty:String}(x:Str)(t:Tok)(it:Addr)(hty:ty="str_ascii_iterator"∨ty="str_iterator"):Turn P w K tg (Its x) [it] it (λi h=>h.IsStrIter it ty x t i) where
 mem:=by simp
 obj:=λi h st b hb=>by
  have e:b=it:=by simpa using hb
  subst e;obtain⟨o,e,c,d⟩:=st;exact⟨o,e,λv z=>by rw[d] at z;cases z⟩
 keep:=λi h h' st k=>by
  obtain⟨o,e,r⟩:=st;exact⟨o,k it (by simp) o e,r⟩
 item:=by
  intro X hP hw hK hc i pins s σ H E I hf st hg;subst hP hw hK;have hi:i < x.cps.size:=hg;obtain⟨f0,f1,f2,f3,f4,f5⟩:=hf it (by simp);have go:∀ h',h'.IsStrIter it ty x t (i + 1)→Heap.SameBut it s.heap h'→∃ u,some (Value.str ⟨#[x.cps[i]]⟩ s.toks)=some u∧
   wpAny (model X.prog X.w) X.A (letOwnedTupleGo tg (.ref it) u) (λ_ s2=>∃ y H',Inv X pins σ H' s2∧RelV y u∧(Its x).yld i H y H'∧s2.heap.IsStrIter it ty x t (i + 1)∧∀ b∈[it],H' b=none) E { s with heap:=h',toks:=s.toks + 1 }:=λh' st' sb=>by
   have I1:Inv X pins σ H { s with heap:=h',toks:=s.toks + 1 }:=I.turned (t':=s.toks + 1) (λb o hb e=>(sb.2 b hb).trans e) f0 f1 f3 f4 f5;obtain⟨o,e,c,d⟩:=id st';refine⟨_,rfl,Z1U (s:={ s with heap:=h',toks:=s.toks + 1 }) e c d (by rcases hty with rfl|rfl<;>decide) ⟨.str ⟨#[x.cps[i]]⟩,H,I1,⟨_,rfl⟩,⟨rfl,_,by simp[hi],rfl⟩,st',λb hb=>(hf b hb).1⟩⟩
  rcases hty with rfl|rfl
  ·exact wpAny_pyNext_ascii_item st (c:=x.cps[i]) (by simp[hi]) go
  ·exact wpAny_pyNext_wide_item st (c:=x.cps[i]) (by simp[hi]) go
 done:=by
  intro X hP hw hK hc i pins s σ H E I hf st hg;subst hP hw hK;have hi:x.cps.size≤i:=hg;obtain⟨f0,f1,f2,f3,f4,f5⟩:=hf it (by simp)
  rcases hty with rfl|rfl
  ·exact wpAny_pyNext_ascii_end (I.ok.hd hc) st (by simp;omega) λh' eb=>⟨rfl,I.turned (t':=s.toks) (λb o hb e=>eb b o hb e) f0 f1 f3 f4 f5⟩
  ·exact wpAny_pyNext_wide_end (I.ok.hd hc) st (by simp;omega) λh' eb=>⟨rfl,I.turned (t':=s.toks) (λb o hb e=>eb b o hb e) f0 f1 f3 f4 f5⟩
 self:=λ_ _ _ _ _ st h=>by
  rcases hty with rfl|rfl
  ·exact wpAny_pyIter_striter_ascii st h
  ·exact wpAny_pyIter_striter_wide st h
section
variable {X:Cx}{tg:Expr}
noncomputable def Z8g (tl:TE):TI:=λσ H R=>tl σ H λx H1=>∃ z,x=.str z∧R (Its z) H1
theorem piS {l:Expr}{tl:TE}(hl:PE X l tl):PI X tg l (Z8g tl):=by
 intro pins s σ H R I h;refine thn (hl pins s σ H _ I h) λv s1 zq=>?_;obtain⟨x,H1,I1,r1,q1⟩:=zq;obtain⟨z,e,q⟩:=q1;subst e;obtain⟨t,rfl⟩:=r1;refine wpAny_pyIter_strU ?_;refine⟨s1.heap.objs.size,[s1.heap.objs.size],_,_,H1,rfl,I1.kept (t':=s1.toks) λb o e=>Heap.get?_push_of_some _ e,Z5G (ty:=strIterType z) z t _ (by unfold strIterType;split<;>simp),⟨_,Heap.get?_push_size _ rfl,rfl,rfl⟩,λb hb=>?_,q⟩;have e:b=s1.heap.objs.size:=by simpa using hb
 subst e;exact I1.fpOk (Nat.le_refl _) (I1.hok.fresh (Nat.le_refl _))
end
section
variable {X:Cx}
noncomputable def Z8j:V→Option Int→Option Int→Hp→VK→Prop:=λx lo hi H Q=>∃ z,x=.str z∧z.length≤sizeLine∧Q (.str (Txt.slice z lo hi)) H
theorem Z2t:SlR X Z8j:=by
 intro pins s σ H x v vl vu lo hi sl Q I rx hs pl pu h;obtain⟨z,rfl,hz,q⟩:=h;obtain⟨t,rfl⟩:=rx;refine⟨"str",_,F.slot_str_getitem.lookup,typeIs_str _ _ _,?_⟩;cases pl with
 | none=>
   cases pu with
   | none=>exact wpAny_getItem_str_slice (l:=none) (u:=none) (st:=none) hs rfl (post_val_or_str ⟨Nat.le_trans (Txt.slice_le z _ _) hz,λt' k=>⟨.str _,H,I.tok _,⟨_,rfl⟩,q⟩⟩)
   | int j u=>exact wpAny_getItem_str_slice (l:=none) (u:=some (j,u)) (st:=none) hs rfl (post_val_or_str ⟨Nat.le_trans (Txt.slice_le z _ _) hz,λt' k=>⟨.str _,H,I.tok _,⟨_,rfl⟩,q⟩⟩)
 | int i t'=>
   cases pu with
   | none=>exact wpAny_getItem_str_slice (l:=some (i,t')) (u:=none) (st:=none) hs rfl (post_val_or_str ⟨Nat.le_trans (Txt.slice_le z _ _) hz,λt' k=>⟨.str _,H,I.tok _,⟨_,rfl⟩,q⟩⟩)
   | int j u=>exact wpAny_getItem_str_slice (l:=some (i,t')) (u:=some (j,u)) (st:=none) hs rfl (post_val_or_str ⟨Nat.le_trans (Txt.slice_le z _ _) hz,λt' k=>⟨.str _,H,I.tok _,⟨_,rfl⟩,q⟩⟩)
theorem Z1l:∀ {zs:List Str}{us:List Value},Vals (zs.map V.str) us→∃ l:List (Str×Tok),us=strValues l∧l.map (·.1)=zs
 | [],_,.nil=>⟨[],rfl,rfl⟩
 | z::zs,_,.cons ⟨t,e⟩ r=>by
   obtain⟨l,e1,e2⟩:=Z1l (zs:=zs) r;exact⟨(z,t)::l,by rw[e,e1];rfl,by rw[List.map_cons,e2]⟩
noncomputable def Z87 (K:Frag):V→List V→Hp→VK→Prop:=λx vs H Q=>∃ (z:Str) (l:Addr) (zs:List Str),x=.str z∧vs=[.ref l]∧SqL K H l (zs.map V.str)∧JoinOk z zs=true∧Q (.str (Txt.join z zs)) H
theorem Z7d {K:Frag}(hK:X.K=K):MtR X "str.join" (Z87 K):=by
 subst hK;intro pins s σ H x vs v us Q I rx rv h;obtain⟨z,l,zs,rfl,rfl,hl,hok,q⟩:=h;obtain⟨t,rfl⟩:=rx;obtain⟨u,rfl,ru⟩:=Xc rv;cases ru;obtain⟨its,r,p,hz⟩:=I.list hl;obtain⟨ll,e1,e2⟩:=Z1l r;subst e1;exact SC.join p.isList e2 hok λt' k=>⟨.str _,H,I.tok _,⟨_,rfl⟩,q⟩
end
noncomputable def NF (X:Cx)(d:Addr):Prop:=∀ o u,X.H₀ d≠some (.frz o u)
section
variable {X:Cx}{pins:List (Addr×Obj)}{σ:St}{H:Hp}{s:Shared}{d:Addr}
theorem Inv.retold {o o':HO}(I:Inv X pins σ H s)(e:H d=some o)(nt:∀ xs,o≠.tup xs)(nw:∀ y,o≠.own y)(nz:∀ p u,X.H₀ d≠some (.frz p u))(nb:∀ ps,o≠.tbl ps)(new:ObjOk X.prog X.w (upd H d o') s.heap d o'):Inv X pins σ (upd H d o') s:=by
 have ntup:∀ b xs,H b=some (.tup xs)→b≠d:=λb xs q z=>by subst z;rw[q] at e;exact nt xs (Option.some.inj e).symm
 have nown:∀ b y,H b=some (.own y)→b≠d:=λb y q z=>by subst z;rw[q] at e;exact nw y (Option.some.inj e).symm
 have nn:∀ b,H b=none→b≠d:=λb q z=>by subst z;rw[q] at e;cases e
 have u:=I.base;refine⟨I.ok,I.os,I.bare,⟨u.keep,u.slot,λb ob q n hx=>?_,u.there,λb xs q=>?_,λb ob v q=>?_,λb ps q=>?_⟩,I.loc,I.cell,?_,λx c q=>?_,λp hp=>?_,λb ob q=>?_,I.len⟩
 ·have:=u.free b ob q n hx;rw[Z2 (nn b this)];exact this
 ·have:=u.tups b xs q;rw[Z2 (ntup _ _ this)];exact this
 ·have:=u.frzs b ob v q;rw[Z2 (λz=>by subst z;exact nz _ _ q)];exact this
 ·obtain⟨more,h⟩:=u.tbls b ps q;refine⟨more,?_⟩;rw[Z2 (λz=>by subst z;rw[h] at e;exact nb _ (Option.some.inj e).symm)];exact h
 ·rw[Z2 (nn _ I.free)];exact I.free
 ·have:=I.freeC x c q;rw[Z2 (nn _ this)];exact this
 ·obtain⟨a1,a2,a3⟩:=I.pin p hp;exact⟨a1,by rw[Z2 (nn _ a2)];exact a2,a3⟩
 ·by_cases hb:b=d
  ·subst hb;rw[Z1] at q;cases q;exact new
  ·rw[Z2 hb] at q;exact (I.hok b ob q).stay (λc v _ r=>r) (λc r=>by rw[Z2 (nown _ _ r)];exact r) λc xs r=>by rw[Z2 (ntup _ _ r)];exact r
theorem Inv.notfrz {o:HO}(I:Inv X pins σ H s)(e:H d=some o)(nf:∀ p u,o≠.frz p u):NF X d:=λp u q=>by
 have:=I.base.frzs d p u q;rw[e] at this;exact nf p u (Option.some.inj this)
theorem Inv.freeze {kvs:List (Key×V)}(I:Inv X pins σ H s)(e:H d=some (.dK kvs)):∃ o,Inv X pins σ (upd H d (.frz o (.dK kvs))) s∧NF X d:=by
 have nf:=I.notfrz e (by intro p u z;cases z);obtain⟨z,hd,vs,rel,dd⟩:=Z41 I.hok e;obtain⟨o,es,ep,h1,r⟩:=id dd;exact⟨o,I.retold e (by intro xs z;cases z) (by intro xs z;cases z) nf (by intro xs z;cases z) ⟨h1,z,hd,vs,rel,dd⟩,nf⟩
theorem Inv.thaw {o:Obj}{kvs:List (Key×V)}(I:Inv X pins σ H s)(e:H d=some (.frz o (.dK kvs)))(nf:NF X d):Inv X pins σ (upd H d (.dK kvs)) s:=by
 obtain⟨h1,h2⟩:=I.hok d _ e;exact I.retold e (by intro xs z;cases z) (by intro xs z;cases z) nf (by intro xs z;cases z) h2
end
noncomputable def Th (X:Cx)(H H':Hp):Prop:=H'=H∨∃ d o kvs,NF X d∧H d=some (.frz o (.dK kvs))∧H'=upd H d (.dK kvs)
theorem Th.inv {X:Cx}{pins:List (Addr×Obj)}{σ:St}{H H':Hp}{s:Shared}(t:Th X H H')(I:Inv X pins σ H s):Inv X pins σ H' s:=by
 rcases t with rfl|⟨d,o,kvs,nf,e,rfl⟩
 ·exact I
 ·exact I.thaw e nf
noncomputable def Z6n (X:Cx)(t:TE):TE:=λσ H Q=>t σ H λv H1=>∃ H2,Th X H1 H2∧Q v H2
noncomputable def Z6w (X:Cx)(D:Ends):Ends:={ nx:=λσ H=>∃ H2,Th X H H2∧D.nx σ H2,rt:=λv H=>∃ H2,Th X H H2∧D.rt v H2,bk:=λσ H=>∃ H2,Th X H H2∧D.bk σ H2,ct:=λσ H=>∃ H2,Th X H H2∧D.ct σ H2 }
noncomputable def Z84 (X:Cx)(t:TS):TS:=λD σ H=>t (Z6w X D) σ H
theorem Z6O {X:Cx}{e:Expr}{t:TE}(h:PE X e t):PE X e (Z6n X t):=λpins s σ H Q I q=>
 thn (h pins s σ H _ I q) λu s1 ⟨v,H1,I1,r,H2,th,q2⟩=>⟨v,H2,th.inv I1,r,q2⟩
theorem Z3n {X:Cx}{st:Stmt}{t:TS}(h:PS X st t):PS X st (Z84 X t):=λpins s σ H D I q=>
 thn (h pins s σ H _ I q) λf s1 z=>by
  cases f with
  | next=>obtain⟨σ',H',I',H2,th,q2⟩:=z;exact⟨σ',H2,th.inv I',q2⟩
  | brk=>obtain⟨σ',H',I',H2,th,q2⟩:=z;exact⟨σ',H2,th.inv I',q2⟩
  | cont=>obtain⟨σ',H',I',H2,th,q2⟩:=z;exact⟨σ',H2,th.inv I',q2⟩
  | ret u=>obtain⟨v,σ',H',I',r,H2,th,q2⟩:=z;exact⟨v,σ',H2,th.inv I',r,q2⟩
noncomputable def XQ (v d:Addr):HO:=.ext λh=>h.IsItemsView v d
noncomputable def Z4p (td:TE):TE:=λσ H Q=>td σ H λx H1=>∃ a kvs,x=.ref a∧Rd H1 a (.dK kvs)∧∀ v,H1 v=none→Q (.ref v) (upd H1 v (XQ v a))
theorem Z0j {X:Cx}{o:Expr}{apos cpos:Pos}{td:TE}(ho:PE X o td)(hbase:attributeBase o "items" X.env (eval o X.env)=eval o X.env:=by rfl)(hline:(apos.endLine == cpos.line)=true:=by rfl) :
 PE X (.Call (.Attribute o "items" apos) [] [] cpos) (Z4p td):=by
 intro pins s σ H Q I h;refine wpAny_Call_method0_late hbase hline (thn (ho pins s σ H _ I h) λu s1 zq=>?_);obtain⟨x,H1,I1,rx,a,kvs,ex,rd,q1⟩:=zq;subst ex;obtain rfl:u=Value.ref a:=rx;obtain⟨t1,t2,t3⟩:=Z5d I1 (.inl ⟨kvs,rd⟩);obtain⟨z,hd,vs,rel,dd⟩:=Xx I1.hok rd;refine⟨"dict",_,PySem.F.plainAttrs_dict,PySem.F.slot_dict_items,PySem.F.type_dict_items,t1,t2,Calls.callWith_builtin rfl (PySem.evalArgs_none ?_)⟩;refine call_meetsIn PySem.F.slot_dict_items dd.typeIs PySem.F.entry_dict_items (PySem.F.args_dict_items_1 _) (meets_dict_items (Zv X.prog X.w) a hd) ⟨⟨vs,dd⟩,?_⟩;refine⟨.ref s1.heap.objs.size,_,I1.laid (t':=s1.toks) (λb ob e=>Heap.get?_push_of_some _ e) (Nat.le_refl _) (show ObjOk X.prog X.w _ _ _ (XQ _ a) from ?_),rfl,q1 _ (I1.hok.fresh (Nat.le_refl _))⟩;exact⟨⟨_,Heap.get?_push_size _ rfl,rfl,rfl⟩,⟨_,Heap.get?_push_size _ rfl⟩,λh1 h2 ⟨ob,e,r⟩ k=>⟨ob,k _ e,r⟩⟩
noncomputable def Itd (d:Addr)(o:Obj)(kvs:List (Key×V)):It:=
 ⟨λi H=>H d=some (.frz o (.dK kvs))∧i < kvs.length,
  λi H v H'=>∃ p k x,v=.ref p∧H p=none∧H'=upd H p (.tup [kV k,x])∧kvs[i]? = some (k,x),
  λi H=>H d=some (.frz o (.dK kvs))∧kvs.length≤i⟩
theorem KV.get {κ:Type}:∀ {kvs:List (κ×V)}{vs:List (κ×Value)}{i:Nat}{k:κ}{x:V},KV kvs vs→kvs[i]? = some (k,x)→∃ u,vs[i]? = some (k,u)∧RelV x u
 | _,_,_,_,_,.nil,e=>by simp at e
 | _,_,0,k,x,.cons (a:=p) (b:=q) ⟨r1,r2⟩ _,e=>by
   have e':p=(k,x):=by simpa using e
   subst e';obtain⟨q1,q2⟩:=q;dsimp only at r1 r2;subst r1;exact⟨q2,rfl,r2⟩
 | _,_,i + 1,_,_,.cons _ t,e=>by
   obtain⟨u,h1,h2⟩:=KV.get (i:=i) t (by simpa using e);exact⟨u,by simpa using h1,h2⟩
theorem Z7T {P:Program}{w:World}{k:Key}{key:Value}(h:(Zv P w).is k key=true):RelV (kV k) key:=by
 rw[Z4h] at h
 rcases ZF h with⟨i,t,rfl,rfl⟩|⟨x,t,rfl,rfl⟩
 ·exact⟨t,rfl⟩
 ·exact⟨t,rfl⟩
theorem Z5f {P:Program}{w:World}{H:Hp}{h:Heap}{d:Addr}{o:Obj}{kvs:List (Key×V)}{ep:Nat}{es:Array DictEntry}(hok:HOk P w H h)(e:H d=some (.frz o (.dK kvs)))(he:o.data=.dict es ep) :
 ∃ vs,KV kvs vs∧h.DictAt (Zv P w) d vs ep∧kvs.length≤sizeLine∧(d == sysModules)=false:=by
 obtain⟨h1,z,hd,vs,rel,o',es',ep',g1,g2,g3,g4⟩:=hok d _ e;rw[h1] at g1;cases g1;rw[he] at g3;cases g3;exact⟨vs,rel,⟨o,es,h1,g2,he,g4⟩,z,hd⟩
theorem Z3B {P:Program}{w:World}{K:Frag}{elts:List Expr}{k:Nat}{pos:Pos}(d it:Addr)(o:Obj)(kvs:List (Key×V))(ep:Nat)(es:Array DictEntry)(he:o.data=.dict es ep) :
 Turn P w K (.Tuple elts k pos) (Itd d o kvs) [it] it (λi h=>∃ ok ov,IsItemIter h it d i kvs.length ep ok ov) where
 mem:=by simp
 obj:=λi h st b hb=>by
  have e:b=it:=by simpa using hb
  subst e;obtain⟨ok,ov,h1⟩:=st;exact⟨_,h1,λv z=>nomatch z⟩
 keep:=λi h h' st kk=>by
  obtain⟨ok,ov,h1⟩:=st;exact⟨ok,ov,kk it (by simp) _ h1⟩
 item:=by
  intro X hP hw hK hc i pins s σ H E I hf st hg;subst hP hw hK;obtain⟨ok,ov,h1⟩:=st;obtain⟨g1,g2⟩:=hg;obtain⟨vs,rel,da,hz,hd⟩:=Z5f I.hok g1 he;obtain⟨⟨kk,xx⟩,hx⟩:∃ p,kvs[i]? = some p:=⟨kvs[i],by simp[g2]⟩;obtain⟨u,hu,ru⟩:=rel.get hx;have ln:=rel.length;rw[ln] at h1;have nit:it≠d:=λz=>by
   have:=(hf it (by simp)).1;rw[z,g1] at this;cases this
  refine wpAny_pyNext_items_item h1 da hu λkey h' hk a1 a2 a3 a4=>⟨_,rfl,?_⟩;have hn:H s.heap.objs.size=none:=I.hok.fresh (Nat.le_refl _);have lt:it < s.heap.objs.size:=Heap.lt_size h1;have I1:Inv X pins σ (upd H s.heap.objs.size (.tup [kV kk,xx])) { s with heap:=h' }:=I.turnedLaid (t':=s.toks) (ch:=[it]) (λc ob hc e=>a4 c ob (by simpa using hc) e) hf (λc hc=>by rw[show c=it by simpa using hc];exact lt) (Nat.le_refl _)
   ⟨by simp only[List.length_cons,List.length_nil];rw[sizeLine_eq];decide,[key,u],.cons (Z7T hk) (.cons ru .nil),⟨_,a2,rfl,0,rfl⟩⟩
  refine wpAny_letOwnedTupleGo_items (s:={ s with heap:=h' }) a1 λh'' b1 b2=>?_;have fz:X4 X pins (upd H s.heap.objs.size (.tup [kV kk,xx])) it:=⟨by rw[Z2 (Nat.ne_of_lt lt)];exact (hf it (by simp)).1,(hf it (by simp)).2⟩;have I2:Inv X pins σ (upd H s.heap.objs.size (.tup [kV kk,xx])) { s with heap:=h'' }:=Inv.turnedN (s:={ s with heap:=h' }) (t':=s.toks) (ch:=[it]) I1 (λc ob hc e=>(b2.2 c (by simpa using hc)).trans e) λc hc=>by
   rw[show c=it by simpa using hc];exact fz
  refine⟨.ref s.heap.objs.size,_,I2,rfl,⟨s.heap.objs.size,kk,xx,rfl,hn,rfl,hx⟩,⟨_,_,by rw[ln];exact b1⟩,λc hc=>?_⟩;rw[show c=it by simpa using hc,Z2 (Nat.ne_of_lt lt)];exact (hf it (by simp)).1
 done:=by
  intro X hP hw hK hc i pins s σ H E I hf st hg;subst hP hw hK;obtain⟨ok,ov,h1⟩:=st;obtain⟨g1,g2⟩:=hg;obtain⟨vs,rel,da,hz,hd⟩:=Z5f I.hok g1 he;have ln:=rel.length;rw[ln] at h1 g2;obtain⟨f0,f1,f2,f3,f4,f5⟩:=hf it (by simp);exact wpAny_pyNext_items_end (I.ok.hd hc) h1 da (by simp;omega) λh' eb=>⟨rfl,I.turned (t':=s.toks) (λb ob hb e=>eb b ob hb e) f0 f1 f3 f4 f5⟩
 self:=λA i s Q E st h=>by
  obtain⟨ok,ov,hit⟩:=st;exact kcp_self hit h
noncomputable def Z5c (X:Cx)(tv:TE):TI:=λσ H R=>tv σ H λx H1=>∃ v d kvs,x=.ref v∧H1 v=some (XQ v d)∧
 ((H1 d=some (.dK kvs)∧∀ o,NF X d→R (Itd d o kvs) (upd H1 d (.frz o (.dK kvs))))∨∃ o,H1 d=some (.frz o (.dK kvs))∧R (Itd d o kvs) H1)
theorem piD {X:Cx}{l:Expr}{tl:TE}{elts:List Expr}{k:Nat}{tpos:Pos}(hl:PE X l tl):PI X (.Tuple elts k tpos) l (Z5c X tl):=by
 intro pins s σ H R I h;refine thn (hl pins s σ H _ I h) λvv s1 zq=>?_;obtain⟨x,H1,I1,r1,v,d,kvs,ex,hv,q1⟩:=zq;subst ex;cases r1;obtain⟨view,_⟩:=I1.hok v _ hv;obtain⟨o,H2,I2,e2,q2⟩:∃ o H2,Inv X pins σ H2 s1∧H2 d=some (.frz o (.dK kvs))∧R (Itd d o kvs) H2:=by
  rcases q1 with⟨e,q⟩|⟨o,e,q⟩
  ·obtain⟨o,J,nf⟩:=I1.freeze e;exact⟨o,_,J,Z1,q o nf⟩
  ·exact⟨o,H1,I1,e,q⟩
 obtain⟨g1,z,hd,vs,rel,o',es,ep,f1,f2,f3,f4⟩:=I2.hok d _ e2;rw[g1] at f1;cases f1;have da:s1.heap.DictAt (Zv X.prog X.w) d vs ep:=⟨o,es,g1,f2,f3,f4⟩;refine wpAny_pyIter_items view da ?_;refine⟨s1.heap.objs.size,[s1.heap.objs.size],_,_,H2,rfl,I2.kept (t':=s1.toks) λb ob e=>Heap.get?_push_of_some _ e,Z3B d _ o kvs ep es f3,⟨_,_,by rw[rel.length];exact Heap.get?_push_size _ rfl⟩,λb hb=>?_,q2⟩;rw[show b=s1.heap.objs.size by simpa using hb];exact I2.fpOk (Nat.le_refl _) (I2.hok.fresh (Nat.le_refl _))
end L2
namespace PySem.W
open PySem PySem.Calls PyProof.Rows
noncomputable def KasT.run {α:Type}(lt:Nat→Nat→Bool):KasT α→α
 | .ret a=>a
 | .ask i j k=>(k (lt i j)).run lt
noncomputable def KasT.Ok {α:Type}(n:Nat)(R:α→Prop):KasT α→Prop
 | .ret a=>R a
 | .ask i j k=>i < n∧j < n∧∀ b,(k b).Ok n R
theorem KasT.Ok.bind {α β:Type}{n:Nat}{R:α→Prop}{R':β→Prop}{f:α→KasT β}(hf:∀ a,R a→(f a).Ok n R'):∀ {t:KasT α},t.Ok n R→(t.bind f).Ok n R'
 | .ret a,h=>hf a h
 | .ask i j k,h=>⟨h.1,h.2.1,λb=>KasT.Ok.bind hf (h.2.2 b)⟩
theorem KasT.Ok.res {α:Type}{n:Nat}{R:α→Prop}{lt:Nat→Nat→Bool}:∀ {t:KasT α},t.Ok n R→R (t.run lt)
 | .ret a,h=>h
 | .ask i j k,h=>KasT.Ok.res (t:=k (lt i j)) (h.2.2 (lt i j))
theorem KasT.Ok.wp {α:Type}{n:Nat}{R:α→Prop}{lt:Nat→Nat→Bool}{cmp:Nat→Nat→(Bool→Shared→Prop)→Shared→Prop}{Q:α→Shared→Prop}{s:Shared}(hc:∀ i j (C:Bool→Shared→Prop),i < n→j < n→C (lt i j) s→cmp i j C s) :
 ∀ {t:KasT α},t.Ok n R→Q (t.run lt) s→t.kasWp cmp Q s
 | .ret a,_,q=>q
 | .ask i j k,h,q=>hc i j _ h.1 h.2.1 (KasT.Ok.wp hc (h.2.2 (lt i j)) q)
theorem KasT.run_congr {α:Type}{n:Nat}{R:α→Prop}{lt lt':Nat→Nat→Bool}(hc:∀ i j,i < n→j < n→lt i j=lt' i j):∀ {t:KasT α},t.Ok n R→t.run lt=t.run lt'
 | .ret a,_=>rfl
 | .ask i j k,h=>by
   show (k (lt i j)).run lt=(k (lt' i j)).run lt';rw[hc i j h.1 h.2.1];exact KasT.run_congr hc (h.2.2 _)
noncomputable def Bd (n m:Nat)(p:Array Nat):Prop:=p.size=m∧∀ i,p.getD i 0 < n
theorem Bd.perm {n m:Nat}{p p':Array Nat}(h:Bd n m p)(q:p'.Perm p):Bd n m p':=by
 refine⟨q.size_eq.trans h.1,λi=>?_⟩;have h0:0 < n:=Nat.lt_of_le_of_lt (Nat.zero_le _) (h.2 0)
 by_cases hi:i < p'.size
 ·have e:p'.getD i 0=p'[i]:=by simp[Array.getD,hi]
  rw[e];have hm:p'[i]∈p:=q.mem_iff.mp (Array.getElem_mem hi);obtain⟨j,hj,ej⟩:=Array.mem_iff_getElem.mp hm;have:=h.2 j;have e2:p.getD j 0=p[j]:=by simp[Array.getD,hj]
  rw[e2,ej] at this;exact this
 ·have e:p'.getD i 0=0:=by simp[Array.getD,hi]
  rw[e];exact h0
theorem Bd.rev {n m:Nat}{p:Array Nat}(h:Bd n m p)(i j:Nat):Bd n m (kas_rev p i j):=h.perm (mirror_perm _ _ _ _)
theorem Bd.bub {n m:Nat}{p:Array Nat}(h:Bd n m p)(i j:Nat):Bd n m (bubble p i j):=h.perm (bubble_perm _ _ _)
theorem Z2j {n m:Nat}{p:Array Nat}(h:Bd n m p):∀ f k,(kas_asc p f k).Ok n λ_=>True
 | 0,k=>True.intro
 | f + 1,k=>⟨h.2 _,h.2 _,λb=>by
   cases b with
   | true=>exact True.intro
   | false=>exact Z2j h f (k + 1)⟩
theorem Z04 {n m:Nat}:∀ f p k q,Bd n m p→(kas_desc f p k q).Ok n λr=>Bd n m r.1
 | 0,p,k,q,h=>h
 | f + 1,p,k,q,h=>⟨h.2 _,h.2 _,λb=>by
   cases b with
   | true=>
     show KasT.Ok n _ (if q > 0 then kas_desc f (kas_rev p (k - (q + 1)) k) (k + 1) 0 else kas_desc f p (k + 1) 0)
     by_cases hq:q > 0
     ·rw[if_pos hq];exact Z04 f _ _ _ (h.rev _ _)
     ·rw[if_neg hq];exact Z04 f _ _ _ h
   | false=>
     refine⟨h.2 _,h.2 _,λd=>?_⟩;cases d with
     | true=>exact h
     | false=>exact Z04 f _ _ _ h⟩
theorem Z23 {n m:Nat}{p:Array Nat}(h:Bd n m p)(k r:Nat):(kas_tail3 k r p).Ok n λq=>Bd n m q.2:=by
 unfold kas_tail3;refine KasT.Ok.bind (R:=λ_=>True) (λa _=>?_) (Z2j (h.rev _ _) _ _);exact h.rev _ _
theorem Z09 {n m:Nat}{p:Array Nat}(h:Bd n m p)(k r:Nat):(kas_descPart k r p).Ok n λq=>Bd n m q.2:=by
 unfold kas_descPart;refine KasT.Ok.bind (λa ha=>?_) (Z04 _ _ _ _ h)
 split
 ·exact Z23 (Bd.rev ha _ _) _ _
 ·exact Z23 ha _ _
theorem Z6a {n m:Nat}{p:Array Nat}(h:Bd n m p)(r:Nat):(kas_count r p).Ok n λq=>Bd n m q.2:=by
 unfold kas_count;refine KasT.Ok.bind (R:=λ_=>True) (λa _=>?_) (Z2j h _ _)
 split
 ·exact h
 ·split
  ·refine⟨h.2 _,h.2 _,λb=>?_⟩;cases b with
   | true=>exact h
   | false=>exact Z09 (h.rev _ _) _ _
  ·exact Z09 h _ _
theorem Z0g {n m:Nat}{p:Array Nat}(h:Bd n m p)(k:Nat):∀ f l r,(kas_place p k f l r).Ok n λ_=>True
 | 0,l,r=>True.intro
 | f + 1,l,r=>by
   show KasT.Ok n _ (if l ≥ r then .ret l else _)
   split
   ·exact True.intro
   ·refine⟨h.2 _,h.2 _,λb=>?_⟩;cases b with
    | true=>exact Z0g h k f _ _
    | false=>exact Z0g h k f _ _
theorem Z5q {n m:Nat}:∀ f p k,Bd n m p→(kas_bin f p k).Ok n λq=>Bd n m q
 | 0,p,k,h=>h
 | f + 1,p,k,h=>KasT.Ok.bind (R:=λ_=>True) (λa _=>Z5q f _ _ (h.bub _ _)) (Z0g h k _ _ _)
theorem Jg {n:Nat}(h0:0 < n):(kas_sort n).Ok n λq=>Bd n n q:=by
 unfold kas_sort;have hr:Bd n n (List.toArray (List.range n)):=⟨by simp,λi=>by
  by_cases hi:i < n
  ·simp[Array.getD,hi]
  ·simp[Array.getD,hi,h0]⟩
 refine KasT.Ok.bind (λa ha=>?_) (Z6a hr n)
 split
 ·exact Z5q _ _ _ ha
 ·exact ha
noncomputable def sortP (lt:Nat→Nat→Bool)(n:Nat):List Nat:=if n < 2 then List.range n else ((kas_sort n).run lt).toList
theorem JJ (lt:Nat→Nat→Bool)(n:Nat):(sortP lt n).length=n:=by
 unfold sortP
 split
 ·simp
 ·rename_i h;have:=(Jg (n:=n) (by omega)).res (lt:=lt);rw[Array.length_toList];exact this.1
theorem Z0o (lt:Nat→Nat→Bool)(n:Nat):∀ i∈sortP lt n,i < n:=by
 unfold sortP
 split
 ·intro i hi;exact List.mem_range.mp hi
 ·rename_i h;intro i hi;have:=(Jg (n:=n) (by omega)).res (lt:=lt);obtain⟨j,hj,e⟩:=Array.mem_iff_getElem.mp (Array.mem_toList_iff.mp hi);have q:=this.2 j;have e2:((kas_sort n).run lt).getD j 0=((kas_sort n).run lt)[j]:=by simp[Array.getD,hj]
  rw[e2,e] at q;exact q
theorem sortP_congr {lt lt':Nat→Nat→Bool}{n:Nat}(hc:∀ i j,i < n→j < n→lt i j=lt' i j):sortP lt n=sortP lt' n:=by
 unfold sortP
 split
 ·rfl
 ·rename_i h;rw[KasT.run_congr hc (Jg (n:=n) (by omega))]
end PySem.W
namespace PyProof.Rows
open PySem
section
variable {prog:Program}{w:World}{A:Around}{E:Value→Shared→Prop}{s:Shared}
theorem Z5S {b:Addr}{xs:List Value}{ep:Nat}{P:PySem.Fin→Shared→Prop}(hb:s.heap.get? b=some (seqObj "list" xs.toArray ep))(few:xs.length < 2)
 (q:P (.done (.ret .none)) { s with heap:=sortedHeap s.heap b xs xs.toArray }):wpAny (model prog w) A (Builtin.«list.sort» ⟨[.ref b],[]⟩) P E s:=by
 rw[list_sort_plain];have lt:b < s.heap.objs.size:=Heap.lt_size hb;refine wpAny_bind (listItems_at hb rfl ?_);refine wpAny_bind (listUpdate_at hb rfl ?_);obtain⟨e1,g1⟩:∃ e1,(s.heap.update b (Obj.mapSeq λ_=>#[])).get? b=some (seqObj "list" #[] e1):=⟨_,get?_update_seq hb (λ_=>#[])⟩;refine wpAny_bind (seqEpoch_at g1 rfl ?_);refine wpAny_bind (wpAny_newTuple ?_ (by rw[sizeLine_eq];simp;omega));refine wpAny_bind (wpAny_newList ?_);refine wpAny_holding ?_;have g6:(((s.heap.update b (Obj.mapSeq λ_=>#[])).push (seqObj "tuple" xs.toArray 0)).push (seqObj "list" #[] 0)).get? b=some (seqObj "list" #[] e1):=by
  rw[Heap.get?_push_ne _ _ _ (by rw[size_push',Heap.size_update];exact Nat.ne_of_lt (Nat.lt_succ_of_lt lt)),Heap.get?_push_ne _ _ _ (by rw[Heap.size_update];exact Nat.ne_of_lt lt)];exact g1
 show wpAny (model prog w) A _ P E { s with heap:=((s.heap.update b (Obj.mapSeq λ_=>#[])).push (seqObj "tuple" xs.toArray 0)).push (seqObj "list" #[] 0) };dsimp only;have h2:xs.toArray.size < 2:=by simpa using few
 rw[if_pos h2,if_pos h2];refine wpAny_bind (wpAny_pure ?_);rw[StateT.run_pure];refine wpAny_bind (wpAny_pure ?_);dsimp only;refine wpAny_bind (seqEpoch_at g6 rfl ?_);refine wpAny_bind (listUpdate_at g6 rfl ?_ (hsz2:=by rw[Array.size_map];show (pairsOf xs).size≤_;rw[pairsOf_size,sizeLine_eq];omega));simp only[bne_self_eq_false,Bool.false_eq_true,if_false];refine wpAny_pure ?_;have e:(arrOf (SortSt.mk' general' (xs.toArray.zip xs.toArray) #[] 7 none)).map (·.2)=xs.toArray:=by
  show (xs.toArray.zip xs.toArray).map (·.2)=xs.toArray;refine Array.ext (by simp) λi h1 h2=>by simp
 have q2:=q;rw[←e] at q2;exact q2
theorem Z3O {l:Addr}{xs:List Value}{Q:Value→Shared→Prop}(hl:s.heap.IsList l xs.toArray)(few:xs.length < 2)(q:Q (.ref (s.heap.objs.size + 1)) { s with heap:=sortedAll s.heap xs xs.toArray }) :
 wpAny (model prog w) A (call (.builtin "sorted") [.ref l]) Q E s:=by
 refine Calls.call_function_entry kind_sorted plain_sorted entry_sorted (args_sorted1 _) ?_;unfold Builtin.«sorted»;refine wpAny_bind (m:=checkCount "sorted" 1 1 _) (wpAny_pure ?_);refine wpAny_bind (collect_list hl ?_ (by rw[sizeLine_eq];omega));refine wpAny_bind (wpAny_newList ?_ (by rw[sizeLine_eq];omega));have sz:((s.heap.push (seqObj "list" #[] 0)).update s.heap.objs.size (Obj.mapSeq (·++xs.toArray))).objs.size=s.heap.objs.size + 1:=by rw[Heap.size_update,size_push']
 have at1:(((s.heap.push (seqObj "list" #[] 0)).update s.heap.objs.size (Obj.mapSeq (·++xs.toArray))).push (seqObj "list" xs.toArray 0)).get? (s.heap.objs.size + 1)=some (seqObj "list" xs.toArray 0):=by
  rw[←sz];exact Heap.get?_push_size _ rfl
 show wpAny _ _ _ _ _ { s with heap:=((s.heap.push (seqObj "list" #[] 0)).update s.heap.objs.size (Obj.mapSeq (·++xs.toArray))).push (seqObj "list" xs.toArray 0) };rw[sz];refine wpAny_bind (wpAny_holding (wpAny_call_entry slot_list_sort ⟨_,at1,rfl⟩ entry_list_sort (Z5S at1 few ⟨_,rfl,?_⟩) (args_list_sort _)));exact wpAny_pure ⟨_,rfl,q⟩
end
end PyProof.Rows
namespace L2
open PySem PySem.Spec PyProof.Rows PySem.W
section
variable {X:Cx}{pins:List (Addr×Obj)}{σ:St}{H:Hp}{s:Shared}
theorem Inv.byNews {D:Addr}{ob:Obj}{o:HO}{m:Str→Option Value}{h':Heap}{t':Nat}(I:Inv X pins σ H s)(F:Fr X.base X.env.locals s.heap m)(F':Fr X.base X.env.locals h' m)
 (N':News X.base X.env.locals h' ((D,ob)::X8 X.base s.heap X.env.locals)) (lt:∀ q∈X8 X.base s.heap X.env.locals,q.1 < D) (new:ObjOk X.prog X.w (upd H D o) h' D o) :
 Inv X pins σ (upd H D o) { s with heap:=h',toks:=t' }∧H D=none:=by
 obtain⟨n1,n2,n3⟩:=N' (D,ob) (.head _);have nD:s.heap.get? D=none:=by
  cases e:s.heap.get? D with
  | none=>rfl
  | some u=>exact absurd (lt (D,u) (X0 n2 n3 e)) (Nat.lt_irrefl _)
 have hD:=I.gone nD;have kk:∀ b u,b≠X.env.locals→s.heap.get? b=some u→h'.get? b=some u:=λb u hb e=>by
  cases q:X.base.get? b with
  | some v=>
    have:=I.bk b v q;rw[e] at this;cases this;exact F'.keep b _ q
  | none=>exact (N' (b,u) (.tail _ (X0 hb q e))).1
 have ne:∀ b u,s.heap.get? b=some u→b≠D:=λb u e z=>by rw[z,nD] at e;cases e
 have ne':∀ b u,H b=some u→b≠D:=λb u e z=>by rw[z,hD] at e;cases e
 have nL:∀ b u,H b=some u→b≠X.env.locals:=λb u e z=>by rw[z,I.free] at e;cases e
 refine⟨I.step (g':=s.gens) (d':=s.drawn) (ch:=[]) (λ_ z=>nomatch z) (λb u hb _ _ e _=>kk b u hb e) (λb u hb _ _ e _=>⟨u.slots,kk b u hb e⟩) (λb u _ e z=>by rw[Z2 (ne b u e)];exact z) (λb u _ e=>?_)
  (λb xs e=>by rw[Z2 (ne' _ _ e)];exact e) (λb u v e=>by rw[Z2 (ne' _ _ e)];exact e) (λb ps e=>⟨#[],by rw[Z2 (ne' _ _ e)];simpa using e⟩) (λm1 hm=>?_) (λb u e=>?_) I.bare,hD⟩
 ·by_cases hb:b=X.env.locals
  ·obtain⟨o',_,_,ho',_⟩:=F'.ns;exact⟨o',by rw[hb];exact ho'⟩
  ·exact⟨u,kk b u hb e⟩
 ·have em:m=m1:=by
   obtain⟨o1,es1,ep1,a1,a2,a3,a4⟩:=F.ns;obtain⟨o2,es2,ep2,b1,b2,b3,b4⟩:=hm;rw[a1] at b1;cases b1;rw[a2] at b2;cases b2
   funext x
   rw[←a4,←b4]
  rw[←em];exact F'.ns
 ·by_cases hb:b=D
  ·subst hb;rw[Z1] at e;cases e;exact new
  ·rw[Z2 hb] at e;refine (I.hok b u e).stay (λc v hc q=>kk c v ?_ q) (λc q=>by rw[Z2 (ne' _ _ q)];exact q) λc xs q=>by rw[Z2 (ne' _ _ q)];exact q
   rcases hc with rfl|hc
   ·exact nL _ _ e
   ·exact nL _ _ hc
theorem Z5E {xs:List V}{its:List Value}(I:Inv X pins σ H s)(r:Vals xs its)(few:xs.length < 2):Inv X pins σ (upd H (s.heap.objs.size + 1) (.lst xs)) { s with heap:=sortedAll s.heap its its.toArray }:=by
 obtain⟨e,he⟩:=sortedAll_at s.heap its its.toArray;exact I.laid (t':=s.toks) (λ_ _=>sortedAll_old) (Nat.le_succ _) ⟨small (by omega),its,e,r,he⟩
end
noncomputable def ltS (zs:List Str)(i j:Nat):Bool:=decide ((zs.getD i Str.empty).cps.toList < (zs.getD j Str.empty).cps.toList)
noncomputable def Xm (zs:List Str):List Str:=(sortP (ltS zs) zs.length).map λi=>zs.getD i Str.empty
theorem Z19 {α:Type}(d:α):∀ (xs:List α),(List.range xs.length).map (λi=>xs.getD i d)=xs:=λxs=>by
 refine List.ext_getElem (by simp) λi h1 h2=>?_;simp at h1;simp[h1]
theorem XS {lt:Nat→Nat→Bool}{n:Nat}(h:n < 2):sortP lt n=List.range n:=by unfold sortP;rw[if_pos h]
theorem JR:∀ {xs:List V}{us:List Value}{i:Nat},Vals xs us→i < xs.length→RelV (xs.getD i .non) (us.getD i .none):=fun {xs us i} r h=>by
 have h':i < us.length:=by rw[←r.length];exact h
 obtain⟨u,e,ru⟩:=r.get (i:=i) (x:=xs[i]) (by simp[h]);have e1:xs.getD i .non=xs[i]:=by simp[h]
 have e2:us.getD i .none=u:=by rw[List.getD_eq_getElem?_getD,e];rfl
 rw[e1,e2];exact ru
theorem Z1C {xs:List V}{us:List Value}(r:Vals xs us):∀ (ps:List Nat),(∀ i∈ps,i < xs.length)→Vals (ps.map λi=>xs.getD i .non) (ps.map λi=>us.getD i .none)
 | [],_=>.nil
 | p::ps,h=>.cons (JR r (h p (.head _))) (Z1C r ps λi hi=>h i (.tail _ hi))
section
variable {X:Cx}
theorem Z0U {K:Frag}(hK:X.K=K):YK X (.builtin "sorted") (λxs H Q=>∃ (l:Addr) (zs:List Str),xs=[.ref l]∧SqL K H l (zs.map V.str)∧zs.length < 64∧∀ p,H p=none→Q (.ref p) (upd H p (.lst ((Xm zs).map V.str)))):=by
 subst hK;intro pins s σ H xs us Q I r h;obtain⟨l,zs,rfl,hl,h64,q⟩:=h;obtain⟨u,rfl,rx⟩:=Xc r;cases rx;obtain⟨its,rv,p,hz⟩:=I.list hl;have ln:=rv.length;rw[List.length_map] at ln;have gd:∀ i,i < zs.length→(zs.map V.str).getD i .non=V.str (zs.getD i Str.empty):=λi hi=>by simp[hi]
 have eo:(Xm zs).map V.str=(sortP (ltS zs) zs.length).map λi=>(zs.map V.str).getD i .non:=by
  unfold Xm;rw[List.map_map];exact List.map_congr_left λi hi=>(gd i (Z0o _ _ i hi)).symm
 by_cases few:zs.length < 2
 ·have e:(Xm zs).map V.str=zs.map V.str:=by
   unfold Xm;rw[XS few,Z19]
  refine Z3O p.isList (by omega) ⟨.ref (s.heap.objs.size + 1),_,?_,rfl,q _ (I.hok.fresh (Nat.le_succ _))⟩;rw[e];exact Z5E I rv (by simpa using few)
 ·obtain⟨m,F⟩:=I.fr;refine kas_sorted (T:=.type "str") F XF p.isList (by omega) (by omega) (λh' _ _ v hv=>?_) (by decide) λD e1 h' F' N' lt=>?_
  ·obtain⟨ll,e1,e2⟩:=Z1l rv;rw[e1] at hv;obtain⟨pr,_,rfl⟩:=List.mem_map.mp hv;exact Looks.of_pure rfl
  ·rw[←ln];refine (Jg (n:=zs.length) (by omega)).wp (lt:=ltS zs) (λi j C hi hj c=>?_) ?_
   ·have ri:=JR rv (i:=i) (by simpa using hi);have rj:=JR rv (i:=j) (by simpa using hj);rw[gd i hi] at ri;rw[gd j hj] at rj;obtain⟨ti,ei⟩:=ri;obtain⟨tj,ej⟩:=rj;unfold kas_ask;rw[ei,ej];exact kas_lt_str c
   ·refine KasFin.intro F' N' (.head λq hq=>Nat.ne_of_lt (lt q hq)) λh'' c F'' N''=>?_;have vp:=Z1C rv (sortP (ltS zs) zs.length) λi hi=>by rw[List.length_map];exact Z0o _ _ i hi
    rw[←eo] at vp;have e2:((kas_sort zs.length).run (ltS zs)).toList=sortP (ltS zs) zs.length:=by unfold sortP;rw[if_neg few]
    rw[e2] at N'';obtain⟨J,hD⟩:=I.byNews (t':=s.toks) (o:=.lst ((Xm zs).map V.str)) F F'' N'' lt ⟨small (by unfold Xm;rw[List.length_map,List.length_map,JJ];omega),_,c,vp,(N'' _ (.head _)).1⟩;exact⟨.ref D,_,J,rfl,q D hD⟩
end
section
variable {prog:Program}{w:World}{A:Around}{s:Shared}{b fin:Bool}{C:Bool→Shared→Prop}
end
section
variable {X:Cx}
end
section
variable {P:Program}{w:World}{K:Frag}{mg:Str→Option Value}{base:Heap}
end
section
variable {X:Cx}{k:Nat}{f y:Addr}{fd:FuncData}{ps:List Str}{sp:Sp}{x:Str}{p pos:Pos}{e:Expr}{es:List Expr}{t:TA}
end
noncomputable def XP (X:Cx)(pins:List (Addr×Obj))(xx:St→XK)(ee:Value)(s':Shared):Prop:=∃ (x C t T:Addr) (σ:St) (H H':Hp) (s:Shared),ee=.ref x∧Inv X pins σ H s∧s'.os=s.os∧AllBare s'.gens∧Un (frs X.stack) [] H H' s.heap s'.heap∧HOk X.prog X.w H' s'.heap∧
 H' x=none∧H' T=none∧s.heap.get? x=none∧s.heap.get? T=none∧Trc s'.heap x C t T∧xx σ (.ref C) none H'
noncomputable abbrev TSX:=(St→XK)→TS
noncomputable def PSX (X:Cx)(st:Stmt)(t:TSX):Prop:=∀ (pins:List (Addr×Obj)) (s:Shared) (σ:St) (H:Hp) (D:Ends) (xx:St→XK),Inv X pins σ H s→t xx D σ H→wpAny (model X.prog X.w) X.A (exec st X.env) (SP X pins D) (XP X pins xx) s
noncomputable def Z3M (X:Cx)(st:List Stmt)(t:TSX):Prop:=∀ (pins:List (Addr×Obj)) (s:Shared) (σ:St) (H:Hp) (D:Ends) (xx:St→XK),Inv X pins σ H s→t xx D σ H→wpAny (model X.prog X.w) X.A (execs st X.env) (SP X pins D) (XP X pins xx) s
section
variable {X:Cx}{st:Stmt}{YM:List Stmt}{t u:TSX}{ts:TS}{pos:Pos}
theorem Z0x (h1:PSX X st t):Z3M X [st] t:=by
 intro pins s σ H D xx I h;refine wpAny_execs_cons (wpAny_mono (h1 pins s σ H D xx I h) (λf s1 q=>?_) λ_ _ z=>z);cases f with
 | next=>exact wpAny_execs_nil q
 | ret v=>exact q
 | brk=>exact q
 | cont=>exact q
noncomputable def Z8m (tc:TT)(t u:TSX):TSX:=λxx D σ H=>tc σ H λb H1=>if b=true then t xx D σ H1 else u xx D σ H1
theorem Z7y {c:Expr}{a b:List Stmt}{tc:TT}(hc:PT X.nox c tc)(ha:Z3M X a t)(hb:Z3M X b u):PSX X (.If c a b pos) (Z8m tc t u):=by
 intro pins s σ H D xx I h;refine wpAny_If (wpAny_mono (hc pins s σ H _ (I.wish _) h) (λd s1 zq=>?_) λ_ _ z=>z.elim);obtain⟨H1,I1,q1⟩:=zq;cases d with
 | true=>exact ha pins s1 σ H1 D xx I1.unwish (by simpa using q1)
 | false=>exact hb pins s1 σ H1 D xx I1.unwish (by simpa using q1)
end
section
variable {X:Cx}{k ix:Nat}{f C:Addr}{fd:FuncData}{ps:List Str}{sp:Sp}{m xn fx:Str}{e o:Expr}{es:List Expr}{ta:TE}{t:TA}{p pos apos spos px:Pos}
theorem Z89 {pins:List (Addr×Obj)}{σ:St}{H:Hp}{s:Shared}{Q:VK}{us:List Value}{vs:List V}{xx:St→XK}(F:FnOk X.prog X.w X.K X.mg X.base (CX1 X.prog X.w) k f fd ps sp)(hr:Room k X.A)(hb:Binds X.K fd ps [])
 (I:Inv X pins σ H s) (r:Vals vs us) (h:sp vs H Q (xx σ)):wpAny (model X.prog X.w) X.A (call (.ref f) us) (EP X pins σ Q) (XP X pins xx) s:=by
 have hl:(us++([]:List Value)).length=ps.length:=by rw[List.append_nil,←r.length];exact F.len _ _ _ _ h
 have hb2:=hb s us I.kIn hl;rw[List.append_nil] at hb2;refine wpAny_call (codeAny_mono (F.run X.A X.stack s H ⟨us,[]⟩ us vs Q (xx σ) hr I.env0 hb2 r h) λrr s' hq=>?_);cases rr with
 | error ee=>
   obtain⟨x,C,t,T,H',rfl,os,bare,un,hok,fx,fT,ox,oT,tr,q⟩:=hq;exact⟨x,C,t,T,σ,H,H',s,rfl,I,os,bare,un,hok,fx,fT,ox,oT,tr,q⟩
 | ok fl=>
   cases fl with
   | ret u=>exact I.after hq
   | next=>exact False.elim hq
   | brk=>exact False.elim hq
   | cont=>exact False.elim hq
noncomputable def Z2Z (C:Addr)(m:Str)(ix:Nat)(sp:Sp)(ta:TE)(t:TA):TSX:=λxx D σ H=>ta σ H λx H1=>∃ a dx fs,x=.ref a∧H1 a=some (.ins C dx fs)∧fs.lookup m=none∧t σ H1 λvs H2=>sp (x::vs) H2 (λv H3=>D.nx (σ.set ix (some v)) H3) (xx σ)
end
end L2
namespace L2
open PySem PySem.Spec PyProof.Rows PySem.W PySem.SeqAt
section
variable {X:Cx}
noncomputable def Z7N:R2:=λx y H Q=>∃ (a:Addr) (o:Option V),y=.ref a∧DGet H a x o∧Q (.bl o.isSome) H
noncomputable def Z6M:R2:=λx y H Q=>∃ (a:Addr) (o:Option V),y=.ref a∧DGet H a x o∧Q (.bl (!o.isSome)) H
theorem Z7V (hu:X.A.units + 1 < cLine):OpR X (compareOp .In) Z7N:=by
 intro pins s σ H x y v u Q I rx ry h;obtain⟨a,o,rfl,g,q⟩:=h;cases ry;exact Z8q hu I g rx λs' I'=>⟨.bl _,H,I',rfl,q⟩
theorem Z5l (hu:X.A.units + 1 < cLine):OpR X (compareOp .NotIn) Z6M:=by
 intro pins s σ H x y v u Q I rx ry h;obtain⟨a,o,rfl,g,q⟩:=h;cases ry;exact Z6Q hu I g rx λs' I'=>⟨.bl _,H,I',rfl,q⟩
theorem Z4K {x:Str}{z:Str}{pos:Pos}(hg:Gl X x)(hm:∃ t,X.mg x=some (.str z t))(hd:(x == ("__debug__" : Str))=false:=by decide):PE X (.Name x pos) (tC (.str z)):=by
 obtain⟨t,hm⟩:=hm;exact Z3w (v:=.str z) hg hm ⟨t,rfl⟩ hd
theorem Z3K:YK X (.type "dict") (λxs H Q=>∃ (a:Addr) (kvs:List (Key×V)),xs=[.ref a]∧Rd H a (.dK kvs)∧∀ p,H p=none→Q (.ref p) (upd H p (.dK kvs))):=by
 intro pins s σ H xs us Q I r h;obtain⟨a,kvs,rfl,rd,q⟩:=h;obtain⟨u,rfl,rx⟩:=Xc r;cases rx;exact Z67 I rd λp s' hp I'=>⟨.ref p,_,I',rfl,q p hp⟩
end
end L2
namespace ZT
open PySem
local macro_rules | `(tactic| walk_at "om3")=>`(tactic| first|(show @Ne Nat _ _;omega)|(show @LE.le Nat _ _ _;omega))
section
variable {prog:Program}{w:World}{A:Around}{E:Value→Shared→Prop}{s:Shared}
variable {n l1 l2:Addr}
end
section
variable {prog:Program}{w:World}{A:Around}{E:Value→Shared→Prop}{s:Shared}
end
end ZT
namespace L2
open PySem PySem.Spec PyProof.Rows
local macro_rules | `(tactic| walk_at "om3")=>`(tactic| first|(show @Ne Nat _ _;omega)|(show @LT.lt Nat _ _ _;omega)|(show @LE.le Nat _ _ _;omega))
section
variable {X:Cx}{elts:List Expr}{k:Nat}{tpos:Pos}
end
end L2
namespace L2
open PySem PySem.Spec PyProof.Rows PySem.W
theorem Xq {A:Around}{k:Nat}(hr:Room k A):A.units + 1 < cLine:=by have:=Z7O hr;omega
section
variable {X:Cx}
noncomputable def Z8h (K:Frag):R2:=λx y H Q=>rIn K false x y H Q∨Z7N x y H Q
theorem Z7g {K:Frag}(hK:X.K=K)(hu:X.A.units + 1 < cLine):OpR X (compareOp .In) (Z8h K):=by
 intro pins s σ H x y v u Q I rx ry h
 rcases h with h|h
 ·exact inS hK pins s σ H x y v u Q I rx ry h
 ·exact Z7V hu pins s σ H x y v u Q I rx ry h
end
section
variable {σ:St}{H:Hp}{Q:VK}{D:Ends}{ta tv td ty:TE}{tr:TA}{K:Frag}{f m:Str}{C:Addr}{sp:Sp}{dvs:List V}{E:XK}
theorem rd_fld (q:ta σ H λx H1=>∃ a C dx fs v,x=.ref a∧H1 a=some (.ins C dx fs)∧Cls K C∧NoAttr K C f∧fs.lookup f=some v∧Q v H1):Z5y K ta f σ H Q:=q
theorem rd_sfld (q:tv σ H λy H1=>ta σ H1 λx H2=>∃ a C dx fs,x=.ref a∧H2 a=some (.ins C dx fs)∧Cls K C∧NoAttr K C f∧fs.length < 1000∧D.nx σ (upd H2 a (.ins C dx (ZK f y fs)))):Z7w K ta tv f D σ H:=q
theorem rd_meth (q:ta σ H λx H1=>∃ a dx fs,x=.ref a∧H1 a=some (.ins C dx fs)∧fs.lookup m=none∧tr σ H1 λvs H2=>sp (x::(vs++dvs)) H2 Q E):Z44 C m sp dvs E ta tr σ H Q:=q
theorem rd_make (q:tr σ H λvs H1=>∀ x dx,H1 x=none→H1 dx=none→dx≠x→sp (.ref x::(vs++dvs)) (upd (upd H1 dx (.own x)) x (.ins C dx [])) (λv H2=>v=.non∧Q (.ref x) H2) E):Z3J C sp dvs E tr σ H Q:=q
theorem rd_dget (q:td σ H λx H1=>ty σ H1 λy H2=>∃ a v,x=.ref a∧DGet H2 a y (some v)∧Q v H2):Z6t td ty σ H Q:=q
theorem rd_dput (q:tv σ H λv H1=>td σ H1 λx H2=>ty σ H2 λy H3=>∃ a H4,x=.ref a∧DPut H3 a y v H4∧D.nx σ H4):Z6l td ty tv D σ H:=q
theorem rd_raise (q:tr σ H λvs H1=>vs.length≤100∧E (.ref C) none H1):Z4V E C tr D σ H:=q
theorem rd_thaw {X:Cx}(q:ta σ H λv H1=>∃ H2,Th X H1 H2∧Q v H2):Z6n X ta σ H Q:=q
end
noncomputable def JC (z:Str):List Str:=z.cps.toList.map λc=>⟨#[c]⟩
noncomputable def inT (c w:Str):Bool:=!(Builtin.Str.occurrences w c 0 w.length 1).isEmpty
noncomputable def Z1T (z w:Str):Bool:=(JC z).all λc=>inT c w
noncomputable abbrev abc:Str:="abcdefghijklmnopqrstuvwxyz"
noncomputable def YY (z:Str):Bool:=(decide (1≤(z.length:Int)) && decide ((z.length:Int)≤8)) && Z1T z abc
theorem Z6e (z:Str):(JC z).length=z.cps.size:=by unfold JC;simp
theorem Z6c {z:Str}{i c:Nat}(h:z.cps[i]? = some c):(JC z)[i]? = some ⟨#[c]⟩:=by
 unfold JC;simp[h]
theorem Z4E {α:Type}{xs:List α}{i:Nat}{x:α}(h:xs[i]? = some x):xs.take (i + 1)=xs.take i++[x]:=by
 rw[List.take_add_one,h];rfl
theorem Jk (z:Str)(zs:List Str):inV (.str z) (zs.map V.str)=decide (z∈zs):=by
 unfold inV;rw[List.any_map,Bool.eq_iff_iff,List.any_eq_true,decide_eq_true_iff];constructor
 ·rintro⟨y,hy,e⟩;have:y=z:=by simpa [eqV] using e
  rw[←this];exact hy
 ·intro h;exact⟨z,h,by simp[eqV]⟩
theorem XR (zs:List Str):(zs.map V.str).all Xn=true:=by
 rw[List.all_map,List.all_eq_true];intro x _;rfl
noncomputable abbrev Mn:=Str×Str×Int
noncomputable def Men (H:Hp)(kvs:List (Key×V))(ms:List Mn):Prop:=kvs.length=ms.length∧∀ (i:Nat) (m:Mn),ms[i]? = some m→∃ p:Addr,kvs[i]? = some ((Sum.inr m.1:Key),V.ref p)∧H p=some (.tup [.str m.2.1,.int m.2.2])
theorem Men.nil {H:Hp}:Men H [] []:=⟨rfl,λi m h=>by simp at h⟩
theorem Men.same {H H':Hp}{kvs:List (Key×V)}{ms:List Mn}(h:Men H kvs ms)(k:∀ p xs,H p=some (.tup xs)→H' p=some (.tup xs)):Men H' kvs ms:=
 ⟨h.1,λi m e=>let ⟨p,a,b⟩:=h.2 i m e;⟨p,a,k _ _ b⟩⟩
theorem Men.snoc {H:Hp}{kvs:List (Key×V)}{ms:List Mn}{p:Addr}{x y:Str}{r:Int}(h:Men H kvs ms)(hp:H p=some (.tup [.str y,.int r])):Men H (kvs++[((Sum.inr x:Key),V.ref p)]) (ms++[(x,y,r)]):=by
 refine⟨by simp[h.1],λi m e=>?_⟩;rw[List.getElem?_append] at e
 by_cases hi:i < ms.length
 ·rw[if_pos hi] at e;obtain⟨q,a,b⟩:=h.2 i m e;exact⟨q,by rw[List.getElem?_append,if_pos (by rw[h.1];exact hi)];exact a,b⟩
 ·rw[if_neg hi] at e;have e0:i - ms.length=0:=by
   cases z:i - ms.length with
   | zero=>rfl
   | succ n=>rw[z] at e;simp at e
  rw[e0] at e;have:m=(x,y,r):=by simpa using e.symm
  subst this;exact⟨p,by rw[List.getElem?_append,if_neg (by rw[h.1];exact hi),h.1,e0];rfl,hp⟩
theorem Men.keys {H:Hp}{kvs:List (Key×V)}{ms:List Mn}(h:Men H kvs ms):kvs.map (·.1)=ms.map λm=>(Sum.inr m.1:Key):=by
 apply List.ext_getElem?;intro i;rw[List.getElem?_map,List.getElem?_map];cases e:ms[i]? with
 | none=>
   have:kvs[i]? = none:=by rw[List.getElem?_eq_none_iff] at e ⊢;rw[h.1];exact e
   rw[this];rfl
 | some m=>
   obtain⟨p,a,_⟩:=h.2 i m e;rw[a];rfl
theorem Z5z {kvs:List (Key×V)}{k:Key}:(ZH kvs k).isSome=true ↔ k∈kvs.map (·.1):=by
 cases e:ZH kvs k with
 | none=>exact⟨λh=>(by cases h),λh=>absurd h (Z62 e)⟩
 | some v=>exact⟨λ_=>Z6X e,λ_=>rfl⟩
theorem Men.has {H:Hp}{kvs:List (Key×V)}{ms:List Mn}(h:Men H kvs ms)(x:Str):(ZH kvs (.inr x)).isSome=decide (x∈ms.map (·.1)):=by
 rw[Bool.eq_iff_iff,Z5z,h.keys,decide_eq_true_iff];constructor
 ·intro h;obtain⟨m,hm,e⟩:=List.mem_map.mp h;injection e with e
  exact List.mem_map.mpr ⟨m,hm,e⟩
 ·intro h;obtain⟨m,hm,e⟩:=List.mem_map.mp h;exact List.mem_map.mpr ⟨m,hm,by rw[←e]⟩
theorem rd_nopart {σ:St}{H:Hp}{Q:Option Int→Hp→Prop}(q:Q none H):Z3r σ H Q:=q
theorem Z1x:∀ (zs:List Str),(∀ z∈zs,z.length=1)→(Str.join "" zs).length=zs.length
 | [],_=>rfl
 | [x],h=>h x (by simp)
 | x::y::r,h=>by
   have e:=Z1x (y::r) λz hz=>h z (by simp at hz ⊢;exact .inr hz);have ex:=h x (by simp);show (x++""++Str.join "" (y::r)).length=_;rw[Str.length_append,Str.length_append,e,ex];show 1 + 0 + (y::r).length=_;simp only[List.length_cons];omega
theorem Z2u:∀ (zs:List Str),(∀ z∈zs,z.length=1)→(zs.map (·.length)).sum=zs.length
 | [],_=>rfl
 | x::r,h=>by
   simp only[List.map_cons,List.sum_cons,List.length_cons];rw[h x (by simp),Z2u r λz hz=>h z (by simp[hz])];omega
theorem Z7D {zs:List Str}(h:∀ z∈zs,z.length=1)(hl:zs.length≤1000):JoinOk "" zs=true∧(Txt.join "" zs).length=zs.length:=by
 refine⟨?_,?_⟩
 ·unfold JoinOk;rw[StrLaws.joinTotal,Z2u zs h];show (!decide (zs.length + zs.length * 0 > sizeLine))=true;rw[Nat.mul_zero,Nat.add_zero,decide_eq_false (by have:=small hl;omega)];rfl
 ·show (Builtin.Str.glued "" zs).length=_;rw[StrLaws.glued_eq_join];exact Z1x zs h
theorem Z4U {r:Int}(h0:0≤r)(h1:r < 26):∃ c,atI abc.cps.toList r=some c:=by
 have hn:abc.cps.toList.length=26:=by decide +kernel
 have hk:r.toNat < abc.cps.toList.length:=by rw[hn];omega
 have q:atI abc.cps.toList ((r.toNat:Nat):Int)=some abc.cps.toList[r.toNat]:=Zx (List.getElem?_eq_getElem hk);rw[show ((r.toNat:Nat):Int)=r by omega] at q;exact⟨_,q⟩
end L2
namespace L2
open PySem PySem.Spec PyProof.Rows
end L2
namespace L2
open PySem PySem.Spec PyProof.Rows PySem.W
end L2
namespace PySem.W
open PySem PyProof.Rows
section
variable {prog:Program}{w:World}{A:Around}{E:Value→Shared→Prop}{s:Shared}{d:Addr}{es:Array DictEntry}{ep:Nat}
end
end PySem.W
namespace L2
open PySem PySem.Spec PyProof.Rows PySem.W
section
variable {X:Cx}{pins:List (Addr×Obj)}{σ:St}{H:Hp}{s:Shared}{d:Addr}
end
section
variable {M:Model}{A:Around}{EE:Value→Shared→Prop}{s:Shared}{bs:Heap}{ev:Env}{ou:List Env}{L e:Addr}{Q:Unit→Shared→Prop}
end
section
variable {prog:Program}{w:World}{A:Around}{EE:Value→Shared→Prop}{env:Env}
variable {nm q:Str}{C N x0:Addr}{bs bm:List Value}{hdct:Bool}{sn:List Str}{sub:List Value}{ab:Bool}{col:Option Bool}{dd:Option Addr}{k0 k1 k2 k3 k5:Option Value}{newId:String}
end
section
variable {X:Cx}{pins:List (Addr×Obj)}{σ:St}{H H':Hp}{s:Shared}
end
section
variable {X:Cx}{E:XK}{ta:TA}
end
section
variable {P:Program}{w:World}{K:W.Frag}{mg:Str→Option Value}{base:Heap}
end
section
variable {X:Cx}{pins:List (Addr×Obj)}{σ:St}{H H':Hp}{s:Shared}
end
section
variable {X:Cx}{C:Addr}{x f:Str}{e o value:Expr}{p pos pos':Pos}{ta:TA}{te tv:TE}{E:XK}{CX:CXT}{k:Nat}{fI:Addr}{fd:FuncData}{ps:List Str}{sp:Sp}
end
section
variable {X:Cx}{E:XK}{k kI:Nat}{f fI B D:Addr}{fd fdI:FuncData}{ps psI:List Str}{sp spI:Sp}{fn bn cn:Str}{e en:Expr}{es:List Expr}{t tn:TA}{p cp ep np bp bcp np2 rp hpos pos:Pos}{j:Nat}
end
section
variable {X:Cx}{pins:List (Addr×Obj)}{σ:St}{H:Hp}{s:Shared}
theorem Inv.byNews2 {D D2:Addr}{e1 e2:Nat}{m:Str→Option Value}{h':Heap}{t':Nat}(I:Inv X pins σ H s)(F:Fr X.base X.env.locals s.heap m)(F':Fr X.base X.env.locals h' m)
 (N':News X.base X.env.locals h' ((D2,seqObj "list" #[] e2)::(D,seqObj "list" #[] e1)::X8 X.base s.heap X.env.locals)) (l0:D < D2) (lt:∀ q∈X8 X.base s.heap X.env.locals,q.1 < D) :
 Inv X pins σ (upd (upd H D (.lst [])) D2 (.lst [])) { s with heap:=h',toks:=t' }∧H D=none∧H D2=none:=by
 obtain⟨n1,n2,n3⟩:=N' (D,_) (.tail _ (.head _));obtain⟨p1,p2,p3⟩:=N' (D2,_) (.head _);have nD:∀ b,D≤b→b≠X.env.locals→X.base.get? b=none→s.heap.get? b=none:=λb hb h1 h2=>by
  cases e:s.heap.get? b with
  | none=>rfl
  | some u=>exact absurd (lt (b,u) (X0 h1 h2 e)) (Nat.not_lt_of_le hb)
 have g1:=nD D (Nat.le_refl _) n2 n3;have g2:=nD D2 (Nat.le_of_lt l0) p2 p3;have hD:=I.gone g1;have hD2:=I.gone g2;have kk:∀ b u,b≠X.env.locals→s.heap.get? b=some u→h'.get? b=some u:=λb u hb e=>by
  cases q:X.base.get? b with
  | some v=>
    have:=I.bk b v q;rw[e] at this;cases this;exact F'.keep b _ q
  | none=>exact (N' (b,u) (.tail _ (.tail _ (X0 hb q e)))).1
 have ne:∀ b u,s.heap.get? b=some u→b≠D∧b≠D2:=λb u e=>⟨λz=>(by rw[z,g1] at e;cases e),λz=>(by rw[z,g2] at e;cases e)⟩;have ne':∀ b u,H b=some u→b≠D∧b≠D2:=λb u e=>⟨λz=>(by rw[z,hD] at e;cases e),λz=>(by rw[z,hD2] at e;cases e)⟩;have nL:∀ b u,H b=some u→b≠X.env.locals:=λb u e z=>by rw[z,I.free] at e;cases e
 have up:∀ b u,H b=some u→upd (upd H D (.lst [])) D2 (.lst []) b=some u:=λb u e=>by rw[Z2 (ne' _ _ e).2,Z2 (ne' _ _ e).1];exact e
 refine⟨I.step (g':=s.gens) (d':=s.drawn) (ch:=[]) (λ_ z=>nomatch z) (λb u hb _ _ e _=>kk b u hb e) (λb u hb _ _ e _=>⟨u.slots,kk b u hb e⟩) (λb u _ e z=>by rw[Z2 (ne b u e).2,Z2 (ne b u e).1];exact z) (λb u _ e=>?_)
  (λb xs e=>up _ _ e) (λb u v e=>up _ _ e) (λb ps e=>⟨#[],by simpa using up _ _ e⟩) (λm1 hm=>?_) (λb u e=>?_) I.bare,hD,hD2⟩
 ·by_cases hb:b=X.env.locals
  ·obtain⟨o',_,_,ho',_⟩:=F'.ns;exact⟨o',by rw[hb];exact ho'⟩
  ·exact⟨u,kk b u hb e⟩
 ·have em:m=m1:=by
   obtain⟨o1,es1,ep1,a1,a2,a3,a4⟩:=F.ns;obtain⟨o2,es2,ep2,b1,b2,b3,b4⟩:=hm;rw[a1] at b1;cases b1;rw[a2] at b2;cases b2
   funext x
   rw[←a4,←b4]
  rw[←em];exact F'.ns
 ·by_cases hb2:b=D2
  ·subst hb2;rw[Z1] at e;cases e;exact⟨Nat.zero_le _,[],e2,.nil,p1⟩
  ·rw[Z2 hb2] at e
   by_cases hb:b=D
   ·subst hb;rw[Z1] at e;cases e;exact⟨Nat.zero_le _,[],e1,.nil,n1⟩
   ·rw[Z2 hb] at e;refine (I.hok b u e).stay (λc v hc q=>kk c v ?_ q) (λc q=>up _ _ q) λc xs q=>up _ _ q
    rcases hc with rfl|hc
    ·exact nL _ _ e
    ·exact nL _ _ hc
theorem Inv.newsSet {D:Addr}{c:Nat}{m:Str→Option Value}{h':Heap}{xs xs':List V}{its:List Value}(I:Inv X pins σ H s)(eD:H D=some (.lst xs))(F:Fr X.base X.env.locals s.heap m)(F':Fr X.base X.env.locals h' m)
 (N':News X.base X.env.locals h' ((D,seqObj "list" its.toArray c)::YM X.base s.heap X.env.locals D)) (r:Vals xs' its) (z:xs'.length≤sizeLine) :
 Inv X pins σ (upd H D (.lst xs')) { s with heap:=h' }:=by
 obtain⟨n1,n2,n3⟩:=N' (D,_) (.head _);have kk:∀ b u,b≠X.env.locals→b≠D→s.heap.get? b=some u→h'.get? b=some u:=λb u hb hd e=>by
  cases q:X.base.get? b with
  | some v=>
    have:=I.bk b v q;rw[e] at this;cases this;exact F'.keep b _ q
  | none=>exact (N' (b,u) (.tail _ (Z6j hb q e hd))).1
 have nn:∀ b,H b=none→b≠D:=λb e q=>by rw[q,eD] at e;cases e
 have nL:∀ b u,H b=some u→b≠X.env.locals:=λb u e z=>by rw[z,I.free] at e;cases e
 have up:∀ b u,H b=some u→(∀ ys,u≠.lst ys)→upd H D (.lst xs') b=some u:=λb u e n=>by
  rw[Z2 λq=>by rw[q,eD] at e;cases e;exact n _ rfl];exact e
 refine I.step (t':=s.toks) (g':=s.gens) (d':=s.drawn) (ch:=[]) (λ_ z=>nomatch z) (λb u hb _ _ e z=>kk b u hb (nn b z) e) (λb u hb _ _ e z=>⟨u.slots,kk b u hb (nn b z) e⟩) (λb u _ e z=>by rw[Z2 (nn b z)];exact z) (λb u _ e=>?_)
  (λb ys e=>up _ _ e (by intro _ z;cases z)) (λb u v e=>up _ _ e (by intro _ z;cases z)) (λb ps e=>⟨#[],by simpa using up _ _ e (by intro _ z;cases z)⟩) (λm1 hm=>?_) (λb u e=>?_) I.bare
 ·by_cases hb:b=X.env.locals
  ·obtain⟨o',_,_,ho',_⟩:=F'.ns;exact⟨o',by rw[hb];exact ho'⟩
  ·by_cases hd:b=D
   ·exact⟨_,by rw[hd];exact n1⟩
   ·exact⟨u,kk b u hb hd e⟩
 ·have em:m=m1:=by
   obtain⟨o1,es1,ep1,a1,a2,a3,a4⟩:=F.ns;obtain⟨o2,es2,ep2,b1,b2,b3,b4⟩:=hm;rw[a1] at b1;cases b1;rw[a2] at b2;cases b2
   funext x
   rw[←a4,←b4]
  rw[←em];exact F'.ns
 ·by_cases hb:b=D
  ·subst hb;rw[Z1] at e;cases e;exact⟨z,its,c,r,n1⟩
  ·rw[Z2 hb] at e;refine (I.hok b u e).stay (λc v hc q=>kk c v ?_ ?_ q) (λc q=>up _ _ q (by intro _ z;cases z)) λc xs q=>up _ _ q (by intro _ z;cases z)
   ·rcases hc with rfl|hc
    ·exact nL _ _ e
    ·exact nL _ _ hc
   ·rcases hc with rfl|hc
    ·exact hb
    ·intro q;rw[q,eD] at hc;cases hc
end
section
variable {X:Cx}{pins:List (Addr×Obj)}{σ:St}{H:Hp}{s:Shared}{d:Addr}
theorem Inv.freezeL {xs:List V}{o:Obj}(I:Inv X pins σ H s)(e:H d=some (.lst xs))(g:s.heap.get? d=some o):Inv X pins σ (upd H d (.frz o (.lst xs))) s:=
 I.retold e (by intro xs z;cases z) (by intro xs z;cases z) (I.notfrz e (by intro p u z;cases z)) (by intro xs z;cases z) ⟨g,I.hok d _ e⟩
theorem Inv.thawL {xs:List V}{o:Obj}(I:Inv X pins σ H s)(e:H d=some (.frz o (.lst xs)))(nf:NF X d):Inv X pins σ (upd H d (.lst xs)) s:=by
 obtain⟨h1,h2⟩:=I.hok d _ e;exact I.retold e (by intro xs z;cases z) (by intro xs z;cases z) nf (by intro xs z;cases z) h2
noncomputable abbrev Z0V (k:Int×Int):List V:=[.int k.1,.int k.2]
structure KeysAt (X:Cx)(pins:List (Addr×Obj))(σ:St)(H0:Hp)(m:Str→Option Value)(D kS:Addr)(e1:Nat)(ks:List (Int×Int))(tps:List Addr)(e:Nat)(Hc:Hp)(s:Shared):Prop where
 inv:Inv X pins σ Hc s
 fr:Fr X.base X.env.locals s.heap m
 hD:Hc D=some (.frz (seqObj "list" #[] e1) (.lst []))
 hK:Hc kS=some (.frz (seqObj "list" (tps.map Value.ref).toArray e) (.lst (tps.map V.ref)))
 ne:D≠kS
 nD:NF X D
 nK:NF X kS
 same:Same H0 Hc
 fresh:H0 D=none∧H0 kS=none
 tup:∀ j,j < tps.length→Hc (tps.getD j 0)=some (.tup (Z0V (ks.getD j (0,0))))
 base:X.base.get? D=none∧X.base.get? kS=none∧D≠X.env.locals∧kS≠X.env.locals
theorem JI:∀ (as:List Addr),Vals (as.map V.ref) (as.map Value.ref)
 | []=>.nil
 | a::as=>.cons rfl (JI as)
variable {k:Nat}{f:Addr}{fd:FuncData}{p:Str}{sp:Sp}
theorem Z0w {H0:Hp}{m:Str→Option Value}{D kS:Addr}{e1:Nat}{ks:List (Int×Int)}{ps:List Addr}{Fin:List Value→Nat→Shared→Prop}(F:FnOk X.prog X.w X.K X.mg X.base CX0 k f fd [p] sp)(hr:Room (k + 2) X.A)(hb:Binds X.K fd [p] [])
 (l64:ps.length < 64)
 (hsp:∀ Hc,Same H0 Hc→∀ i,i < ps.length→sp [.ref (ps.getD i 0)] Hc (λv H2=>Same Hc H2∧∃ tp,v=.ref tp∧H2 tp=some (.tup (Z0V (ks.getD i (0,0))))) E0)
 (fin:∀ tps e Hc s',tps.length=ps.length→KeysAt X pins σ H0 m D kS e1 ks tps e Hc s'→Fin (tps.map Value.ref) e s') :
 ∀ (r:List Addr) (tps:List Addr) (e:Nat) (Hc:Hp) (s':Shared),tps.length + r.length=ps.length→(∀ j,j < r.length→r.getD j 0=ps.getD (tps.length + j) 0)→KeysAt X pins σ H0 m D kS e1 ks tps e Hc s'→
   KatKeys X.prog X.w X.A.in1.in1 X.base X.env.locals m kS (.ref f) Fin (r.map Value.ref) (tps.map Value.ref) e s'
 | [],tps,e,Hc,s',hl,_,A=>KatKeys.nil (fin tps e Hc s' (by simpa using hl) A)
 | a::r,tps,e,Hc,s',hl,hg,A=>by
   have ha:a=ps.getD tps.length 0:=by simpa using hg 0 (by simp)
   have hi:tps.length < ps.length:=by simp at hl;omega
   refine KatKeys.cons ?_;have hq:=hsp Hc A.same tps.length hi;rw[←ha] at hq;have r1:Vals [V.ref a] [Value.ref a]:=.cons rfl .nil;have hb2:=hb s' [Value.ref a] A.inv.kIn rfl;rw[List.append_nil] at hb2;have e0:=A.inv.env0;refine wpAny_call (codeAny_mono (F.run X.A.in1.in1 X.stack s' Hc ⟨[Value.ref a],[]⟩ [Value.ref a] _ _ E0 (hr.in1.in1) e0.in1.in1 hb2 r1 hq) λrr s2 hq'=>?_);cases rr with
   | error ee=>exact False.elim hq'
   | ok fl=>
     cases fl with
     | next=>exact False.elim hq'
     | brk=>exact False.elim hq'
     | cont=>exact False.elim hq'
     | ret u=>
       obtain⟨v,H2,I2,rv,S2,tp,ev,et⟩:=A.inv.after hq';subst ev;obtain rfl:u=Value.ref tp:=rv;have F2:Fr X.base X.env.locals s2.heap m:=by
        obtain⟨_,_,_,_,un,_⟩:=id hq';obtain⟨o,es,ep,ho,rr⟩:=A.fr.ns;obtain⟨sl,hL⟩:=un.any ho A.inv.free (by simp);exact⟨⟨_,es,ep,hL,rr⟩,I2.bk,A.fr.above⟩
       have hD2:=S2 _ _ A.hD;have hK2:=S2 _ _ A.hK;obtain⟨gK,_⟩:=I2.hok _ _ hK2;refine KatBack.intro F2 (Z15 A.base.2.2.2 A.base.2.1 gK) (.head Z13) λh' c F' N'=>?_;have I3:=I2.thawL hK2 A.nK;have vv:Vals ((tps++[tp]).map V.ref) ((tps++[tp]).map Value.ref):=JI _;have eL:(tps.map Value.ref)++[Value.ref tp]=(tps++[tp]).map Value.ref:=by simp
       rw[eL] at N' ⊢;have I4:=I3.newsSet (xs':=(tps++[tp]).map V.ref) Z1 F2 F' N' vv (by rw[List.length_map,List.length_append];exact small (by simp;omega));rw[ZU] at I4;have I5:=I4.freezeL Z1 (N' _ (.head _)).1;rw[ZU] at I5;have nt:∀ b xs,H2 b=some (.tup xs)→b≠kS:=λb xs q z=>by rw[z,hK2] at q;cases q
       refine Z0w F hr hb l64 hsp fin r (tps++[tp]) c _ _ (by simp at hl ⊢;omega) (λj hj=>?_) ⟨I5,F',?_,Z1,A.ne,A.nD,A.nK,?_,A.fresh,λj hj=>?_,A.base⟩
       ·have:=hg (j + 1) (by simpa using hj);simp at this ⊢;rw[this]
        congr 2
        omega
       ·rw[Z2 A.ne];exact hD2
       ·intro c2 o2 q;rw[Z2 (Z6 q A.fresh.2)];exact S2 _ _ (A.same _ _ q)
       ·by_cases hj2:j < tps.length
        ·have q:=S2 _ _ (A.tup j hj2);have eg:(tps++[tp]).getD j 0=tps.getD j 0:=by simp[List.getD,List.getElem?_append_left hj2]
         rw[eg,Z2 (nt _ _ q)];exact q
        ·have ej:j=tps.length:=by simp at hj;omega
         subst ej;have eg:(tps++[tp]).getD tps.length 0=tp:=by simp[List.getD]
         rw[eg,Z2 (nt _ _ et)];exact et
end
noncomputable def ltK (ks:List (Int×Int))(i j:Nat):Bool:=decide ((ks.getD i (0,0)).1 < (ks.getD j (0,0)).1) || (decide ((ks.getD i (0,0)).1=(ks.getD j (0,0)).1) && decide ((ks.getD i (0,0)).2 < (ks.getD j (0,0)).2))
noncomputable def Xg (ks:List (Int×Int))(ps:List Addr):List Addr:=(sortP (ltK ks) ps.length).map λi=>ps.getD i 0
theorem Z1B {h:Heap}:∀ (tps:List Addr),(∀ a∈tps,∃ o n x y t u,h.get? a=some o∧o.cls=.type "tuple"∧o.data=.seq #[Value.int x t,Value.int y u] n)→∃ fs,KatTups h (tps.map Value.ref) fs∧fs.length=tps.length∧∀ v∈fs,∃ x t,v=Value.int x t
 | [],_=>⟨[],.nil,rfl,λv hv=>by simp at hv⟩
 | a::r,H=>by
   obtain⟨fs,h1,h2,h3⟩:=Z1B r λb hb=>H b (.tail _ hb);obtain⟨o,n,x,y,t,u,e1,e2,e3⟩:=H a (.head _);refine⟨.int x t::fs,KatTups.cons (f:=.int x t) e1 e2 e3 (by simp) h1,by simp[h2],λv hv=>?_⟩
   rcases List.mem_cons.mp hv with rfl|hv
   ·exact⟨x,t,rfl⟩
   ·exact h3 v hv
section
variable {X:Cx}{pins:List (Addr×Obj)}{σ:St}{H:Hp}{s:Shared}{k:Nat}{f:Addr}{fd:FuncData}{p:Str}{sp:Sp}
theorem KeysAt.end {H0:Hp}{m:Str→Option Value}{D kS:Addr}{e1 e:Nat}{ks:List (Int×Int)}{tps out:List Addr}{Hc:Hp}{C:Shared→Prop}(A:KeysAt X pins σ H0 m D kS e1 ks tps e Hc s)(h64:out.length < 64)
 (q:∀ s' Hf,Inv X pins σ Hf s'→Same H0 Hf→Hf D=some (.lst (out.map V.ref))→C s'):KatFin X.base X.env.locals m kS D (tps.map Value.ref) e e1 (out.map Value.ref) C s:=by
 obtain⟨gK,_⟩:=A.inv.hok _ _ A.hK;refine KatFin.intro A.fr (Z15 A.base.2.2.2 A.base.2.1 gK) (.head Z13) λh' c F' N'=>?_;have I3:=A.inv.thawL A.hK A.nK;have I4:=I3.newsSet (xs':=[]) (its:=[]) Z1 A.fr F' N' .nil (Nat.zero_le _);rw[ZU] at I4;have hD4:upd Hc kS (.lst []) D=some (.frz (seqObj "list" #[] e1) (.lst [])):=by rw[Z2 A.ne];exact A.hD
 obtain⟨gD,_⟩:=I4.hok _ _ hD4;refine KasFin.intro F' (Z15 A.base.2.2.1 A.base.1 gD) (.head Z13) λh'' c2 F'' N''=>?_;have I5:=I4.thawL hD4 A.nD;have I6:=I5.newsSet (xs':=out.map V.ref) (its:=out.map Value.ref) Z1 F' F'' N'' (JI out) (by rw[List.length_map];exact small (by omega));rw[ZU] at I6;refine q _ _ I6 (λc3 o3 z=>?_) Z1;rw[Z2 (Z6 z A.fresh.1),Z2 (Z6 z A.fresh.2)];exact A.same _ _ z
theorem Z49 {l:Addr}{ks:List (Int×Int)}{ps:List Addr}{Q:VK}(F:FnOk X.prog X.w X.K X.mg X.base CX0 k f fd [p] sp)(hr:Room (k + 2) X.A)(hb:Binds X.K fd [p] [])(I:Inv X pins σ H s)(hl:SqL X.K H l (ps.map V.ref))(h2:2≤ps.length)(h64:ps.length < 64)
 (hsp:∀ Hc,Same H Hc→∀ i,i < ps.length→sp [.ref (ps.getD i 0)] Hc (λv H2=>Same Hc H2∧∃ tp,v=.ref tp∧H2 tp=some (.tup (Z0V (ks.getD i (0,0))))) E0)
 (q:∀ D Hc,Same H Hc→H D=none→Hc D=some (.lst ((Xg ks ps).map V.ref))→Q (.ref D) Hc) :
 wpAny (model X.prog X.w) X.A (call (.builtin "sorted") [.ref l] [(Str.ofString "key",.ref f)]) (EP X pins σ Q) X.xe s:=by
 obtain⟨its,rv,pp,hz⟩:=I.list hl;have ei:its=ps.map Value.ref:=by
  clear hl hsp q pp hz;generalize ps=as at rv;clear h2 h64
  induction as generalizing its with
  | nil=>cases rv;rfl
  | cons a as ih=>
    cases rv with
    | cons r1 r2=>
      rw[ih _ r2,show _=Value.ref a from r1];rfl
 subst ei;obtain⟨m,F0⟩:=I.fr;refine kat_sortedK (b:=false) (f:=.ref f) F0 XF pp.isList (by rw[List.length_map];exact h2) (by rw[List.length_map];exact h64) (ksk_s1 _ _) (λx=>ksk_l1 _ _) (λx=>ksk_t1 f x) λD kS e1 h' F' N' l0 lt=>?_;obtain⟨J,hD,hK⟩:=I.byNews2 (t':=s.toks) F0 F' N' l0 lt;obtain⟨n1,n2,n3⟩:=N' (D,_) (.tail _ (.head _));obtain⟨p1,p2,p3⟩:=N' (kS,_) (.head _);have ne:D≠kS:=Nat.ne_of_lt l0;have nfD:NF X D:=λo u z=>by have:=I.base.frzs _ _ _ z;rw[hD] at this;cases this
 have nfK:NF X kS:=λo u z=>by have:=I.base.frzs _ _ _ z;rw[hK] at this;cases this
 have J1:=J.freezeL (d:=kS) Z1 p1;rw[ZU] at J1;have J2:=J1.freezeL (d:=D) (xs:=[]) (by rw[Z2 ne,Z1]) n1;have A0:KeysAt X pins σ H m D kS e1 ks [] 0 _ { s with heap:=h' }:=⟨J2,F',Z1,by rw[Z2 (Ne.symm ne),Z1];rfl,ne,nfD,nfK,λc o z=>by
  rw[Z2 (Z6 z hD),Z2 (Z6 z hK),Z2 (Z6 z hD)];exact z,⟨hD,hK⟩,λj hj=>by simp at hj,⟨n3,p3,n2,p2⟩⟩
 refine Z0w (ks:=ks) (ps:=ps) F hr hb h64 hsp (λtps e Hc s' hlen A=>?_) ps [] 0 _ _ (by simp) (λj hj=>by simp) A0;have tupAt:∀ j,j < tps.length→∃ o n t u,s'.heap.get? (tps.getD j 0)=some o∧o.cls=.type "tuple"∧o.data=.seq #[Value.int (ks.getD j (0,0)).1 t,Value.int (ks.getD j (0,0)).2 u] n:=λj hj=>by
  obtain⟨_,vs,rvs,o,g1,g2,n,g3⟩:=A.inv.hok _ _ (A.tup j hj);cases rvs with
  | cons r1 r2=>cases r2 with
    | cons r3 r4=>cases r4 with
      | nil=>
        obtain⟨t,rfl⟩:=r1;obtain⟨u,rfl⟩:=r3;exact⟨o,n,t,u,g1,g2,g3⟩
 obtain⟨fs,k1,k2,k3⟩:=Z1B (h:=s'.heap) tps λa ha=>by
  obtain⟨j,hj,ej⟩:=List.mem_iff_getElem.mp ha;obtain⟨o,n,t,u,g1,g2,g3⟩:=tupAt j hj;have e0:tps.getD j 0=a:=by simp[List.getD,hj,ej]
  rw[e0] at g1;exact⟨o,n,_,_,t,u,g1,g2,g3⟩
 refine kat_kind (T:=.type "int") k1 (by omega) (λv hv=>by obtain⟨z,t,rfl⟩:=k3 v hv;exact Looks.of_pure rfl) (by decide) ?_;rw[List.length_map];have gd:∀ i,i < ps.length→(tps.map Value.ref).getD i Value.none=Value.ref (tps.getD i 0):=λi hi=>by
  have:i < tps.length:=by omega
  simp[List.getD,this]
 refine (Jg (n:=ps.length) (by omega)).wp (lt:=ltK ks) (λi j C hi hj c=>?_) ?_
 ·show kas_ask _ _ _ _ (tps.map Value.ref) i j C s';unfold kas_ask;rw[gd i hi,gd j hj];obtain⟨o1,n1,t1,u1,a1,a2,a3⟩:=tupAt i (by omega);obtain⟨o2,n2,t2,u2,b1,b2,b3⟩:=tupAt j (by omega);refine kat_lt a1 a3 b1 b3 ?_;refine kat_cons (wpAny_eqBool_int ?_)
  by_cases e1:(ks.getD i (0,0)).1=(ks.getD j (0,0)).1
  ·rw[beq_iff_eq.mpr e1];refine kat_yes (kat_cons (wpAny_eqBool_int ?_))
   by_cases e2:(ks.getD i (0,0)).2=(ks.getD j (0,0)).2
   ·rw[beq_iff_eq.mpr e2];refine kat_yes (kat_nil ?_);have el:ltK ks i j=false:=by unfold ltK;generalize ks.getD i (0,0)=a at e1 e2 ⊢;generalize ks.getD j (0,0)=b at e1 e2 ⊢;simp[e1,e2]
    rw[el] at c;exact c
   ·rw[beq_eq_false_iff_ne.mpr e2];refine kat_no (kat_one _ _ (lt_int ?_));show C _ s';have el:ltK ks i j=decide ((ks.getD i (0,0)).2 < (ks.getD j (0,0)).2):=by unfold ltK;generalize ks.getD i (0,0)=a at e1 ⊢;generalize ks.getD j (0,0)=b at e1 ⊢;simp[e1]
    rw[el] at c;exact c
  ·rw[beq_eq_false_iff_ne.mpr e1];refine kat_no (oneLt_int ?_);have el:ltK ks i j=decide ((ks.getD i (0,0)).1 < (ks.getD j (0,0)).1):=by unfold ltK;generalize ks.getD i (0,0)=a at e1 ⊢;generalize ks.getD j (0,0)=b at e1 ⊢;simp[e1]
   rw[el] at c;exact c
 ·have e2:((kas_sort ps.length).run (ltK ks)).toList=sortP (ltK ks) ps.length:=by unfold sortP;rw[if_neg (by omega)]
  rw[e2];have eo:(katRev false ((sortP (ltK ks) ps.length).map λi=>(katRev false (ps.map Value.ref)).getD i Value.none))=(Xg ks ps).map Value.ref:=by
   show (sortP (ltK ks) ps.length).map (λi=>(ps.map Value.ref).getD i Value.none)=_;unfold Xg;rw[List.map_map];refine List.map_congr_left λi hi=>?_;have:=Z0o _ _ i hi;simp[List.getD,this]
  rw[eo];refine A.end (by unfold Xg;rw[List.length_map,JJ];exact h64) λs4 Hf If Sf eD=>?_;exact⟨.ref D,Hf,If,rfl,q D Hf Sf hD eD⟩
end
section
variable {prog:Program}{w:World}{A:Around}{EE:Value→Shared→Prop}{s:Shared}{hb:Heap}{L a kS:Addr}{m:Str→Option Value}{x:Value}{P:PySem.Fin→Shared→Prop}
theorem Z75 {v:Value}{e e1:Nat}(h:KatFin hb L m kS a [v] e e1 [x] (λs4=>P (.done (.ret .none)) s4) s):wpAny (model prog w) A (ksk_end a false #[x] e1 (.ref kS) #[v]) P EE s:=by
 unfold ksk_end;dsimp only;rw[if_neg (by decide),if_pos (show (#[x]:Array Value).size < 2 by simp),if_pos (show (#[x]:Array Value).size < 2 by simp)];refine wpAny_bind (wpAny_pure ?_);rw[StateT.run_pure];refine wpAny_bind (wpAny_pure ?_);dsimp only;exact kat_tail (b:=false) (ks:=[v]) (out:=[x]) (by rw[if_neg (by decide)];show ((#[v]:Array Value).zip #[x]).map (·.2) = #[x];simp) (by simp) (by simp) rfl h
theorem Z4G {f:Value}{n:Nat}{news:List (Addr×Obj)}(F:Fr hb L s.heap m)(N:News hb L s.heap news)(ho:s.heap.get? a=some (seqObj "list" #[x] n))(haL:a≠L)(ha0:hb.get? a=none)(hna:∀ p∈news,p.1≠a)
 (k:∀ kS e1 g,Fr hb L g m→News hb L g ((kS,seqObj "list" #[] 0)::(a,seqObj "list" #[] e1)::news)→a < kS→(∀ q∈news,q.1 < kS)→
   KatKeys prog w A hb L m kS f (λks e s2=>∃ v,ks=[v]∧KatFin hb L m kS a [v] e e1 [x] (λs4=>P (.done (.ret .none)) s4) s2) [x] [] 0 { s with heap:=g }) :
 wpAny (model prog w) A (ksk_tree a f false) P EE s:=by
 have lta:a < s.heap.objs.size:=Heap.lt_size ho;have sb:=Heap.SameBut.update s.heap a (Obj.mapSeq λ_=>(#[]:Array Value));obtain⟨e1,o1⟩:∃ e1,(s.heap.update a (Obj.mapSeq λ_=>(#[]:Array Value))).get? a=some (seqObj "list" #[] e1):=⟨_,get?_update_seq ho λ_=>#[]⟩;have G1:=kas_fr F sb haL ha0;have M1:=kas_news N sb hna;unfold ksk_tree;refine wpAny_bind (listItems_at ho rfl ?_);refine wpAny_bind (listUpdate_at ho rfl ?_ (by show 1≤_;rw[sizeLine_eq];omega) (Nat.zero_le _));refine wpAny_bind (seqEpoch_at o1 rfl ?_);refine wpAny_bind (wpAny_newTuple ?_ (by show 1≤_;rw[sizeLine_eq];omega));refine wpAny_bind (wpAny_newList ?_ (Nat.zero_le _));refine wpAny_holding ?_;have sz:((s.heap.update a (Obj.mapSeq λ_=>(#[]:Array Value))).push (seqObj "tuple" #[x] 0)).objs.size=s.heap.objs.size + 1:=by rw[size_push',Heap.size_update]
 have ltL:=(G1.push (seqObj "tuple" #[x] 0)).ns.lt;have at0:(((s.heap.update a (Obj.mapSeq λ_=>(#[]:Array Value))).push (seqObj "tuple" #[x] 0)).push (seqObj "list" #[] 0)).get? ((s.heap.update a (Obj.mapSeq λ_=>(#[]:Array Value))).push (seqObj "tuple" #[x] 0)).objs.size=some (seqObj "list" #[] 0):=Heap.get?_push_size _ rfl;have K:=k ((s.heap.update a (Obj.mapSeq λ_=>(#[]:Array Value))).push (seqObj "tuple" #[x] 0)).objs.size e1 _ ((G1.push (seqObj "tuple" #[x] 0)).push (seqObj "list" #[] 0)) (λp hp=>?_) (by rw[sz];exact Nat.lt_succ_of_lt lta) λq hq=>by rw[sz];exact Nat.lt_succ_of_lt (Heap.lt_size (N q hq).1)
 rotate_left
 ·rcases List.mem_cons.mp hp with rfl|hp
  ·exact⟨at0,Nat.ne_of_gt ltL,Heap.get?_none_of_le (Nat.le_trans F.above (Nat.le_of_lt ltL))⟩
  ·rcases List.mem_cons.mp hp with rfl|hp
   ·exact⟨Heap.get?_push_of_some _ (Heap.get?_push_of_some _ o1),haL,ha0⟩
   ·exact⟨Heap.get?_push_of_some _ (Heap.get?_push_of_some _ (M1 p hp).1),(M1 p hp).2⟩
 show wpAny (model prog w) A (ksk_rest a f false #[x] e1 _) P EE _;unfold ksk_rest;refine wpAny_bind (wpAny_rule ?_);show wpAny (model prog w) A (bind (forIn (#[x]:Array Value) PUnit.unit _) _) P EE _;rw[←Array.forIn_toList];refine wpAny_bind (wpAny_mono (kat_fold (n:=1) (by decide) (λy ks e s2 C hz hx=>?_) [x] [] 0 _ (by simp) at0 K) (λ_ s2 hd=>?_) λ_ _ z=>z)
 ·refine wpAny_bind (wpAny_attempt (wpAny_mono hx (λv s3 hk=>?_) λ_ _ hF=>hF.elim));obtain⟨nw,g,F',N',U,c⟩:=hk;obtain⟨pre,post,e0,hg,x1,x2⟩:=U.split;rw[e0] at N';have nk:=N' _ (List.mem_append_right _ (.head _));have s1:=Heap.SameBut.update s3.heap ((s.heap.update a (Obj.mapSeq λ_=>(#[]:Array Value))).push (seqObj "tuple" #[x] 0)).objs.size (Obj.mapSeq (·.push v));have ea:(List.toArray ks).push v=List.toArray (ks++[v]):=by simp
  obtain⟨c2,hc2⟩:∃ c2,(s3.heap.update ((s.heap.update a (Obj.mapSeq λ_=>(#[]:Array Value))).push (seqObj "tuple" #[x] 0)).objs.size (Obj.mapSeq (·.push v))).get? ((s.heap.update a (Obj.mapSeq λ_=>(#[]:Array Value))).push (seqObj "tuple" #[x] 0)).objs.size=some (seqObj "list" (List.toArray (ks++[v])) c2):=⟨_,by rw[←ea];exact get?_update_seq nk.1 (·.push v)⟩;dsimp only;refine wpAny_bind (listUpdate_at nk.1 rfl ?_ (by rw[List.size_toArray,sizeLine_eq];omega) (Nat.le_trans (Nat.le_of_eq (Array.size_push ..)) (by rw[List.size_toArray,sizeLine_eq];omega)));exact wpAny_pure ⟨rfl,v,c2,hc2,c _ c2 (kas_fr F' s1 nk.2.1 nk.2.2) (by rw[hg];exact news_set N' x1 x2 s1 hc2)⟩
 ·obtain⟨ks,e,hk',hl,v,rfl,fin⟩:=hd;dsimp only;refine wpAny_bind (listItems_at hk' rfl ?_);exact Z75 fin
theorem Z3T {l:Addr}{f:Addr}{news:List (Addr×Obj)}{Q:Value→Shared→Prop}(F:Fr hb L s.heap m)(N:News hb L s.heap news)(hl:s.heap.IsList l #[x])
 (k:∀ D kS e1 g,Fr hb L g m→News hb L g ((kS,seqObj "list" #[] 0)::(D,seqObj "list" #[] e1)::news)→D < kS→(∀ q∈news,q.1 < D)→
   KatKeys prog w A.in1.in1 hb L m kS (.ref f) (λks e s2=>∃ v,ks=[v]∧KatFin hb L m kS D [v] e e1 [x] (λs4=>Q (.ref D) s4) s2) [x] [] 0 { s with heap:=g }) :
 wpAny (model prog w) A (call (.builtin "sorted") [.ref l] [(Str.ofString "key",.ref f)]) Q EE s:=by
 refine call_function_entry_kw kind_sorted plain_sorted entry_sorted (ksk_s1 _ _) ?_;unfold Builtin.«sorted»;refine wpAny_bind (m:=checkCount "sorted" 1 1 _) (wpAny_pure ?_);refine wpAny_bind (collect_list hl ?_ (by show 1≤_;rw[sizeLine_eq];omega));refine wpAny_bind (wpAny_newList ?_ (by show 1≤_;rw[sizeLine_eq];omega));have sz:((s.heap.push (seqObj "list" #[] 0)).update s.heap.objs.size (Obj.mapSeq (·++#[x]))).objs.size=s.heap.objs.size + 1:=by
  rw[Heap.size_update,size_push']
 have at1:(((s.heap.push (seqObj "list" #[] 0)).update s.heap.objs.size (Obj.mapSeq (·++#[x]))).push (seqObj "list" #[x] 0)).get? (s.heap.objs.size + 1)=some (seqObj "list" #[x] 0):=by
  rw[←sz];exact Heap.get?_push_size _ rfl
 have kp:∀ b o,s.heap.get? b=some o→(((s.heap.push (seqObj "list" #[] 0)).update s.heap.objs.size (Obj.mapSeq (·++#[x]))).push (seqObj "list" #[x] 0)).get? b=some o:=λb o q=>by
  have lt:b < s.heap.objs.size:=Heap.lt_size q;rw[Heap.get?_push_ne _ _ _ (by rw[sz];exact Nat.ne_of_lt (Nat.lt_succ_of_lt lt)),Heap.get?_update_ne _ _ _ _ (Nat.ne_of_lt lt),Heap.get?_push_ne _ _ _ (Nat.ne_of_lt lt)];exact q
 have ltL:L < s.heap.objs.size:=F.ns.lt;show wpAny (model prog w) _ _ _ _ { s with heap:=((s.heap.push (seqObj "list" #[] 0)).update s.heap.objs.size (Obj.mapSeq (·++#[x]))).push (seqObj "list" #[x] 0) };rw[sz];refine wpAny_bind (wpAny_holding (wpAny_call_entry_kw slot_list_sort ⟨_,at1,rfl⟩ entry_list_sort ?body (ksk_l1 _ _)))
 case body=>
  have ht:=ksk_t1 f (s.heap.objs.size + 1);show wpAny (model prog w) A.in1.in1 (Builtin.«list.sort» ⟨[.ref (s.heap.objs.size + 1)],[(Str.ofString "key",.ref f)]⟩) _ _ _;rw[ht];refine Z4G (s:={ s with heap:=((s.heap.push (seqObj "list" #[] 0)).update s.heap.objs.size (Obj.mapSeq (·++#[x]))).push (seqObj "list" #[x] 0) }) (F.kept kp) (N.grown kp) at1 (Nat.ne_of_gt (Nat.lt_succ_of_lt ltL))
   (Heap.get?_none_of_le (Nat.le_trans F.above (Nat.le_succ_of_le (Nat.le_of_lt ltL)))) (λp hp=>Nat.ne_of_lt (Nat.lt_succ_of_lt (Heap.lt_size (N p hp).1))) λkS e1 g F' N' l0 l1=>?_
  refine kat_keys_mono (k _ kS e1 g F' N' l0 λq hq=>Nat.lt_succ_of_lt (Heap.lt_size (N q hq).1)) λks e s2 hl2 ⟨v,ev,hd⟩=>⟨v,ev,hd.mono λs4 hq=>⟨_,rfl,wpAny_pure ⟨_,rfl,hq⟩⟩⟩
end
section
variable {X:Cx}{pins:List (Addr×Obj)}{σ:St}{H:Hp}{s:Shared}{k:Nat}{f:Addr}{fd:FuncData}{p:Str}{sp:Sp}
theorem Z1d:∀ {as:List Addr}{its:List Value},Vals (as.map V.ref) its→its=as.map Value.ref
 | [],_,.nil=>rfl
 | a::as,_,.cons r1 r2=>by rw[Z1d r2,show _=Value.ref a from r1];rfl
theorem Z32 {l a:Addr}{ks:List (Int×Int)}{Q:VK}(F:FnOk X.prog X.w X.K X.mg X.base CX0 k f fd [p] sp)(hr:Room (k + 2) X.A)(hb:Binds X.K fd [p] [])(I:Inv X pins σ H s)(hl:SqL X.K H l [V.ref a])
 (hsp:∀ Hc,Same H Hc→∀ i,i < [a].length→sp [.ref ([a].getD i 0)] Hc (λv H2=>Same Hc H2∧∃ tp,v=.ref tp∧H2 tp=some (.tup (Z0V (ks.getD i (0,0))))) E0)
 (q:∀ D Hc,Same H Hc→H D=none→Hc D=some (.lst [V.ref a])→Q (.ref D) Hc) :
 wpAny (model X.prog X.w) X.A (call (.builtin "sorted") [.ref l] [(Str.ofString "key",.ref f)]) (EP X pins σ Q) X.xe s:=by
 obtain⟨its,rv,pp,hz⟩:=I.list hl;have ei:its=[Value.ref a]:=Z1d (as:=[a]) rv;subst ei;obtain⟨m,F0⟩:=I.fr;refine Z3T (f:=f) F0 XF pp.isList λD kS e1 h' F' N' l0 lt=>?_;obtain⟨J,hD,hK⟩:=I.byNews2 (t':=s.toks) F0 F' N' l0 lt;obtain⟨n1,n2,n3⟩:=N' (D,_) (.tail _ (.head _));obtain⟨p1,p2,p3⟩:=N' (kS,_) (.head _);have ne:D≠kS:=Nat.ne_of_lt l0;have nfD:NF X D:=λo u z=>by have:=I.base.frzs _ _ _ z;rw[hD] at this;cases this
 have nfK:NF X kS:=λo u z=>by have:=I.base.frzs _ _ _ z;rw[hK] at this;cases this
 have J1:=J.freezeL (d:=kS) Z1 p1;rw[ZU] at J1;have J2:=J1.freezeL (d:=D) (xs:=[]) (by rw[Z2 ne,Z1]) n1;have A0:KeysAt X pins σ H m D kS e1 ks [] 0 _ { s with heap:=h' }:=⟨J2,F',Z1,by rw[Z2 (Ne.symm ne),Z1];rfl,ne,nfD,nfK,λc o z=>by
  rw[Z2 (Z6 z hD),Z2 (Z6 z hK),Z2 (Z6 z hD)];exact z,⟨hD,hK⟩,λj hj=>by simp at hj,⟨n3,p3,n2,p2⟩⟩
 refine Z0w (ks:=ks) (ps:=[a]) F hr hb (by simp) hsp (λtps e Hc s' hlen A=>?_) [a] [] 0 _ _ (by simp) (λj hj=>by simp) A0;obtain⟨tp,rfl⟩:∃ tp,tps=[tp]:=by
  match tps,hlen with
  | [tp],_=>exact⟨tp,rfl⟩
 refine⟨.ref tp,rfl,?_⟩;refine A.end (out:=[a]) (by simp) λs4 Hf If Sf eD=>?_;exact⟨.ref D,Hf,If,rfl,q D Hf Sf hD eD⟩
end
inductive EntF (w:World):List DictEntry→List (Str×Addr)→Prop
 | nil:EntF w [] []
 | cons {x:Str}{t:Tok}{a:Addr}{r:List DictEntry}{kvs:List (Str×Addr)}:EntF w r kvs→EntF w (⟨PyData.keyHash w.params x,.str x t,.ref a⟩::r) ((x,a)::kvs)
noncomputable def DictF (w:World)(K:Frag)(d:Addr)(kvs:List (Str×Addr)):Prop:=∃ (o:Obj) (es:Array DictEntry) (ep:Nat),K.lookup d=some o∧o.ExactDict∧o.data=.dict es ep∧EntF w es.toList kvs∧(kvs.map (·.1)).Nodup
theorem EntF.keys {P:Program}{w:World}:∀ {es:List DictEntry}{kvs:List (Str×Addr)},EntF w es kvs→∀ e∈es,∃ k,(Zv P w).is k e.key=true∧e.hash=(Zv P w).hash k
 | _,_,h=>by
   induction h with
   | nil=>intro e he;cases he
   | @cons x t a r kvs q ih=>
     intro e he
     rcases List.mem_cons.mp he with rfl|he
     ·exact⟨.inr x,JD x t,rfl⟩
     ·exact ih e he
theorem EntF.pairs {P:Program}{w:World}:∀ {es:List DictEntry}{kvs:List (Str×Addr)},EntF w es kvs→Pairs (Zv P w) es (kvs.map λp=>((.inr p.1:Key),Value.ref p.2))
 | _,_,h=>by
   induction h with
   | nil=>exact .nil
   | @cons x t a r kvs q ih=>exact .cons (JD x t) rfl ih
theorem DictF.of {w:World}{K:Frag}{d:Addr}{kvs:List (Str×Addr)}{h:Heap}{P:Program}(D:DictF w K d kvs)(X:K.In h):h.DictOf (Zv P w) d (kvs.map λp=>((.inr p.1:Key),Value.ref p.2)):=by
 obtain⟨o,es,ep,a1,a2,a3,a4,a5⟩:=D;refine⟨o,es,ep,X _ _ a1,a2,a3,λe he=>a4.keys e (by simpa using he),a4.pairs,?_⟩;rw[List.map_map];have:(List.map ((λx=>x.fst) ∘ λp:Str×Addr=>((Sum.inr p.1:Key),Value.ref p.2)) kvs)=(kvs.map (·.1)).map (Sum.inr:Str→Key):=by rw[List.map_map];rfl
 rw[this];exact List.Pairwise.map _ (λa b n e=>n (Sum.inr.inj e)) a5
theorem Z53 {kvs:List (Str×Addr)}{x:Str}{a:Addr}(h:kvs.lookup x=some a):valueAt (kvs.map λp=>((.inr p.1:Key),Value.ref p.2)) (.inr x)=some (.ref a):=by
 unfold valueAt
 induction kvs with
 | nil=>cases h
 | cons p r ih=>
   obtain⟨y,b⟩:=p
   by_cases e:x=y
   ·subst e;have:some b=some a:=by simpa [List.lookup] using h
    cases this;simp
   ·have h2:r.lookup x=some a:=by
     have:(x == y)=false:=beq_eq_false_iff_ne.mpr e
     simpa [List.lookup,this] using h
    have ne:¬ (Sum.inr y:Key)=Sum.inr x:=λz=>e (Sum.inr.inj z).symm;rw[List.map_cons,List.find?_cons_of_neg (by simpa using ne)];exact ih h2
section
variable {X:Cx}{i:Expr}{ty:TE}{d:Addr}{x:Str}{kvs:List (Str×Addr)}{p pos:Pos}
noncomputable def Z6y (kvs:List (Str×Addr))(ty:TE):TE:=λσ H Q=>ty σ H λy H1=>∃ key a,y=.str key∧kvs.lookup key=some a∧Q (.ref a) H1
theorem rd_getF {kvs:List (Str×Addr)}{ty:TE}{σ:St}{H:Hp}{Q:VK}(q:ty σ H λy H1=>∃ key a,y=.str key∧kvs.lookup key=some a∧Q (.ref a) H1):Z6y kvs ty σ H Q:=q
theorem Z6G (hg:Gl X x)(hm:X.mg x=some (.ref d))(D:DictF X.w X.K d kvs)(hi:PE X i ty)(hs:Z6i i)(hd:(x == ("__debug__" : Str))=false:=by decide):PE X (.Subscript (.Name x p) i pos) (Z6y kvs ty):=by
 intro pins s σ H Q I h;refine Z3v PySem.F.slot_dict_getitem.lookup hs (YV I hg hm (thn (hi pins _ σ H _ I h) λiv s2 zq=>?_) hd);obtain⟨y,H2,I2,ry,key,a,ey,lk,q⟩:=zq;subst ey;have dd:=D.of (P:=X.prog) I2.kIn;exact⟨dd.mapOf.typeIs,wpAny_getItem_of (Jp (k:=.inr key) ry) dd.mapOf (Z53 lk) ⟨.ref a,H2,I2.tok _,rfl,q⟩⟩
end
section
variable {X:Cx}{CX:CXT}{E:XK}{j:Nat}{x:Str}{e:Expr}{es:List Expr}{t:TA}{p pos:Pos}
structure OneFn (X:Cx)(CX:CXT)(f:Addr)(sp:Sp):Prop where
 ok:∃ k fd ps,FnOk X.prog X.w X.K X.mg X.base CX k f fd ps sp∧Room k X.A∧Binds X.K fd ps []
 kp:keepIn X.K (.ref f)=true
noncomputable def Z5j (X:Cx)(CX:CXT)(E:XK)(j:Nat)(t:TA):TE:=λσ H Q=>∃ f sp,σ[j]? = some (some (.ref f))∧OneFn X CX f sp∧t σ H λvs H1=>sp vs H1 Q E
theorem Z0C {σ:St}{H:Hp}{Q:VK}{f:Addr}{sp:Sp}(h1:σ[j]? = some (some (.ref f)))(h2:OneFn X CX f sp)(q:t σ H λvs H1=>sp vs H1 Q E):Z5j X CX E j t σ H Q:=⟨f,sp,h1,h2,q⟩
theorem Z5x (hv:PE X (.Name x p) (XX j))(hx:X3 CX X E)(ha:PA X (e::es) t)
 (he:starEach (e::es) X.env=(false,eval e X.env)::starEach es X.env:=by rfl) (hpl:(backTo pos (starEach es X.env)).any (·.1)=false:=by rfl):PE X (.Call (.Name x p) (e::es) [] pos) (Z5j X CX E j t):=by
 intro pins s σ H Q I h;obtain⟨f,sp,h1,h2,q⟩:=h;refine wpAny_Call_Name_kw (thn (hv pins s σ H (λv H1=>v=.ref f∧H1=H) I ⟨_,h1,rfl,rfl⟩) λu s1 zq=>?_);obtain⟨v,H1,I1,rv,ev,eH⟩:=zq;subst ev eH;obtain rfl:u=Value.ref f:=rv;obtain⟨⟨k,fd,ps,F,hr,hb⟩,kp⟩:=h2;refine callWith_K (h₀:=X.base) I.ok.mod.kin kp (thn (ha pos pins s1 σ H1 _ I1 q) λus s2 ⟨vs,H2,I2,r,q2⟩=>⟨I2.kIn,?_⟩) he hpl;exact JH (dvs:=[]) F hr hb .nil hx I2 r (by rw[List.append_nil];exact q2)
end
section
variable {prog:Program}{w:World}{A:Around}{EE:Value→Shared→Prop}{s:Shared}
end
section
variable {X:Cx}
end
section
variable {prog:Program}{w:World}{A:Around}{EE:Value→Shared→Prop}{s:Shared}
theorem Z8r {es:Array DictEntry}(few:es.size≤1):es = #[]∨∃ e,es = #[e]:=by
 obtain⟨l⟩:=es;cases l with
 | nil=>exact .inl rfl
 | cons e t=>
   cases t with
   | nil=>exact .inr ⟨e,rfl⟩
   | cons a b=>exact absurd (Nat.le_of_succ_le_succ few) (Nat.not_succ_le_zero _)
end
section
variable {X:Cx}
end
theorem Z1n {d:Addr}{o:Obj}{kvs:List (Key×V)}{g:TG}{tb:TS}{nx:St→Hp→Prop}{rt:VK}{σ:St}{H:Hp}(Pv:Nat→St→Hp→Prop)(h0:Pv 0 σ H)(hl:∀ i σ H,i≤kvs.length→Pv i σ H→H d=some (.frz o (.dK kvs)))
 (hs:∀ i k x p σ H,kvs[i]? = some (k,x)→Pv i σ H→H p=none→g (.ref p) σ (upd H p (.tup [kV k,x])) λσ2 H2=>tb { nx:=Pv (i + 1),rt:=rt,bk:=nx,ct:=Pv (i + 1) } σ2 H2) (hd:∀ σ H,Pv kvs.length σ H→nx σ H) :
 ∃ W:Nat→Nat→St→Hp→Prop,(∃ m,W 0 m σ H)∧∀ i m σ H,W i m σ H→
   ((Itd d o kvs).stop i H∧nx σ H)∨((Itd d o kvs).go i H∧∃ N:St→Hp→Prop,(∀ σ' H',N σ' H'→∃ m',m' < m∧W (i + 1) m' σ' H')∧∀ x H',(Itd d o kvs).yld i H x H'→g x σ H' λσ2 H2=>tb { nx:=N,rt:=rt,bk:=nx,ct:=N } σ2 H2):=by
 refine⟨λi m σ H=>m=kvs.length - i∧i≤kvs.length∧Pv i σ H,⟨kvs.length,by simp,Nat.zero_le _,h0⟩,?_⟩;rintro i m σ H ⟨rfl,hi,p⟩;have q:=hl i σ H hi p
 by_cases hlt:i < kvs.length
 ·refine .inr ⟨⟨q,hlt⟩,Pv (i + 1),λσ' H' p'=>⟨kvs.length - (i + 1),by omega,rfl,hlt,p'⟩,λx H' y=>?_⟩;obtain⟨p1,k,v,rfl,hp,rfl,e⟩:=y;exact hs i k v p1 σ H e p hp
 ·have e:i=kvs.length:=by omega
  subst e;exact .inl ⟨⟨q,Nat.le_refl _⟩,hd σ H p⟩
noncomputable def Nx (u n:St→Hp→Prop):Prop:=∀ σ H,u σ H→n σ H
theorem rd_seqV {t u:TS}{D:Ends}{σ:St}{H:Hp}(q:∀ n:St→Hp→Prop,Nx (u D) n→t { D with nx:=n } σ H):Z2z t u D σ H:=q (u D) λ_ _ h=>h
theorem Nx.go {u n:St→Hp→Prop}{σ:St}{H:Hp}(h:Nx u n)(q:u σ H):n σ H:=h _ _ q
section
variable {prog:Program}{w:World}{A:Around}{EE:Value→Shared→Prop}{s:Shared}{R:Result→Shared→Prop}{I:Addr}{fp wr:List Addr}{G:Array GenState→Array GenState→Prop}{St:Nat→Shared→Prop}
end
section
variable {X:Cx}
end
end L2
set_option autoImplicit false
namespace L2
open PySem PySem.Spec PyProof.Rows PySem.W
section
variable {X:Cx}{k:Nat}{f C:Addr}{fd:FuncData}{ps:List Str}{sp:Sp}{m fx:Str}{e o:Expr}{es:List Expr}{ta:TE}{t:TA}{p pos apos spos:Pos}
end
section
variable {prog:Program}{w:World}{A:Around}{E:Value→Shared→Prop}
end
noncomputable def Z0p (hi:Int)(n:Nat):It:=⟨λi _=>i < n,λi H x H'=>H'=H∧x=.int (hi - i),λi _=>n≤i⟩
theorem Z3l {P:Program}{w:World}{K:Frag}{tg:Expr}(it:Addr)(hi:Int)(n:Nat):Turn P w K tg (Z0p hi n) [it] it (λi h=>IsRangeIter h it (hi + (i:Nat) * (-1)) ((n:Int) - (i:Nat)) (-1)) where
 mem:=by simp
 obj:=λi h st b hb=>by
  have e:b=it:=by simpa using hb
  subst e;exact⟨_,st,λv z=>by
   have z':Data.fields _=Data.cell v:=z;cases z'⟩
 keep:=λi h h' st k=>k it (by simp) _ st
 item:=by
  intro X hP hw hK hc i pins s σ H E I hf st hg;subst hP hw hK;obtain⟨f0,f1,f2,f3,f4,f5⟩:=hf it (by simp);have W:=Walks.range (prog:=X.prog) (w:=X.w) (I.ok.hd hc) it hi (-1) n;refine W.item i s _ _ hg st λv h' tk hv st' kk=>?_;obtain⟨t,rfl⟩:=hv;have I1:Inv X pins σ H { s with heap:=h',toks:=tk }:=I.turned (λb o hb e=>kk b o (by simpa using hb) e) f0 f1 f3 f4 f5;refine⟨_,rfl,Z1U (s:={ s with heap:=h',toks:=tk }) (n:="range_iterator") st' rfl rfl (by decide) ⟨.int (hi - i),H,I1,⟨t,?_⟩,⟨rfl,rfl⟩,st',λb hb=>(hf b hb).1⟩⟩;rw[show hi + (i:Int) * (-1)=hi - i by omega]
 done:=by
  intro X hP hw hK hc i pins s σ H E I hf st hg;subst hP hw hK;obtain⟨f0,f1,f2,f3,f4,f5⟩:=hf it (by simp);exact wpAny_pyNext_range_end (I.ok.hd hc) st (by have:n≤i:=hg;omega) λh' eb=>⟨rfl,I.turned (t':=s.toks) (λb o hb e=>eb b o hb e) f0 f1 f3 f4 f5⟩
 self:=λ_ _ _ _ _ st h=>wpAny_pyIter_rangeiter st h
section
variable {X:Cx}{tg:Expr}
theorem Z4A {pins:List (Addr×Obj)}{σ:St}{H:Hp}{s:Shared}{R:It→Hp→Prop}{E:Value→Shared→Prop}{i j:Int}{n:Nat}{t u v:Tok}{tk:Nat}(I:Inv X pins σ H s)(hn:(n:Int)=i - j)(h1:-(2 ^ 40)≤j)(h2:i≤2 ^ 40)
 (q:R (Z0p i n) H):wpAny (model X.prog X.w) X.A (pyIter (.ref s.heap.objs.size)) (PIE X pins σ tg R) E { s with heap:=s.heap.push { cls:=.type "range",data:=.fields #[.int i t,.int j u,.int (-1) v] },toks:=tk }:=by
 refine wpAny_pyIter_range (IsRange.new ..) (Z3X hn h1 h2) ?_;have I1:Inv X pins σ H { s with heap:=s.heap.push { cls:=.type "range",data:=.fields #[.int i t,.int j u,.int (-1) v] },toks:=tk }:=I.kept λb o e=>Heap.get?_push_of_some _ e;refine⟨(s.heap.push { cls:=.type "range",data:=.fields #[.int i t,.int j u,.int (-1) v] }).objs.size,[(s.heap.push { cls:=.type "range",data:=.fields #[.int i t,.int j u,.int (-1) v] }).objs.size],_,_,H,rfl,
  I1.kept (t':=tk) λb o e=>Heap.get?_push_of_some _ e,Z3l _ i n,?_,λb hb=>?_,q⟩
 ·have e1:i + ((0:Nat):Int) * (-1)=i:=by simp
  have e2:(n:Int) - ((0:Nat):Int)=Builtin.Range.rangeSize i j (-1):=by rw[Z1r hn];omega
  show IsRangeIter _ _ (i + ((0:Nat):Int) * (-1)) ((n:Int) - ((0:Nat):Int)) (-1);rw[e1,e2];exact Heap.get?_push_size _ rfl
 ·have e:b=(s.heap.push { cls:=.type "range",data:=.fields #[.int i t,.int j u,.int (-1) v] }).objs.size:=by simpa using hb
  subst e;exact I1.fpOk (Nat.le_refl _) (I1.hok.fresh (Nat.le_refl _))
noncomputable def Z6o (ta:TA):TI:=λσ H R=>ta σ H λvs H1=>∃ (i j:Int) (n:Nat),vs=[.int i,.int j,.int (-1)]∧(n:Int)=i - j∧-(2 ^ 40)≤j∧i≤2 ^ 40∧R (Z0p i n) H1
theorem Z5h {a b c:Expr}{ta:TA}{p pos:Pos}(hg:Gl X "range")(hm:X.mg "range" = none)(ha:PA X [a,b,c] ta)(hs:starEach [a,b,c] X.env=[(false,eval a X.env),(false,eval b X.env),(false,eval c X.env)]:=by rfl)(hs2:starEach [b,c] X.env=[(false,eval b X.env),(false,eval c X.env)]:=by rfl) :
 PI X tg (.Call (.Name "range" p) [a,b,c] [] pos) (Z6o ta):=by
 intro pins s σ H R I h;refine Call_ (Jj I hg hm boot_range (PyProof.Rows.callWith_type1 (thn (ha pos pins s σ H _ I h) λus s1 zq=>?_) (by rw[hs,hs2]) (by rw[hs2];rfl)));obtain⟨vs,H1,I1,r1,q1⟩:=zq;obtain⟨i,j,n,e,q1,q2,q3,q⟩:=q1;subst e;cases r1 with
 | cons r rr=>
   cases rr with
   | cons r' rr=>
     cases rr with
     | cons r'' rr=>
       cases rr;obtain⟨t,rfl⟩:=r;obtain⟨t',rfl⟩:=r';obtain⟨t'',rfl⟩:=r'';exact call_range_3 (by decide) (Z4A (tk:=s1.toks) I1 q1 q2 q3 q) (.inl (PyProof.noPylong_small (by decide)))
end
theorem Z3U {hi:Int}{n:Nat}{g:TG}{tb:TS}{nx:St→Hp→Prop}{rt:VK}{bk ct:St→Hp→Prop}{σ:St}{H:Hp}(Pv:Nat→St→Hp→Prop)(h0:Pv 0 σ H)
 (hs:∀ i σ H,i < n→Pv i σ H→g (.int (hi - i)) σ H λσ2 H2=>tb { nx:=Pv (i + 1),rt:=rt,bk:=nx,ct:=Pv (i + 1) } σ2 H2) (hd:∀ σ H,Pv n σ H→nx σ H) :
 ∃ W:Nat→Nat→St→Hp→Prop,(∃ m,W 0 m σ H)∧∀ i m σ H,W i m σ H→
   ((Z0p hi n).stop i H∧nx σ H)∨((Z0p hi n).go i H∧∃ N:St→Hp→Prop,(∀ σ' H',N σ' H'→∃ m',m' < m∧W (i + 1) m' σ' H')∧∀ x H',(Z0p hi n).yld i H x H'→g x σ H' λσ2 H2=>tb { nx:=N,rt:=rt,bk:=nx,ct:=N } σ2 H2):=by
 refine⟨λi m σ H=>m=n - i∧i≤n∧Pv i σ H,⟨n,by simp,Nat.zero_le _,h0⟩,?_⟩;rintro i m σ H ⟨rfl,hi',p⟩
 by_cases hlt:i < n
 ·refine .inr ⟨hlt,Pv (i + 1),λσ' H' p'=>⟨n - (i + 1),by omega,rfl,hlt,p'⟩,λx H' y=>?_⟩;obtain⟨e,y⟩:=y;subst e y;exact hs i σ _ hlt p
 ·have e:i=n:=by omega
  subst e;exact .inl ⟨Nat.le_refl _,hd σ H p⟩
theorem Jv {lo:Int}{n:Nat}{g:TG}{tb:TS}{nx:St→Hp→Prop}{rt:VK}{σ:St}{H:Hp}(Pv:Nat→St→Hp→Prop)(h0:Pv 0 σ H)
 (hs:∀ i σ H,i < n→Pv i σ H→g (.int (lo + i)) σ H λσ2 H2=>tb { nx:=Pv (i + 1),rt:=rt,bk:=nx,ct:=Pv (i + 1) } σ2 H2) (hd:∀ σ H,Pv n σ H→nx σ H) :
 ∃ W:Nat→Nat→St→Hp→Prop,(∃ m,W 0 m σ H)∧∀ i m σ H,W i m σ H→
   ((Itr lo n).stop i H∧nx σ H)∨((Itr lo n).go i H∧∃ N:St→Hp→Prop,(∀ σ' H',N σ' H'→∃ m',m' < m∧W (i + 1) m' σ' H')∧∀ x H',(Itr lo n).yld i H x H'→g x σ H' λσ2 H2=>tb { nx:=N,rt:=rt,bk:=nx,ct:=N } σ2 H2):=by
 refine⟨λi m σ H=>m=n - i∧i≤n∧Pv i σ H,⟨n,by simp,Nat.zero_le _,h0⟩,?_⟩;rintro i m σ H ⟨rfl,hi,p⟩
 by_cases hlt:i < n
 ·refine .inr ⟨hlt,Pv (i + 1),λσ' H' p'=>⟨n - (i + 1),by omega,rfl,hlt,p'⟩,λx H' y=>?_⟩;obtain⟨e,y⟩:=y;subst e y;exact hs i σ _ hlt p
 ·have e:i=n:=by omega
  subst e;exact .inl ⟨Nat.le_refl _,hd σ H p⟩
section
variable {X:Cx}{pins:List (Addr×Obj)}{σ:St}{H H':Hp}{s s':Shared}
theorem Z5w {x C t T D:Addr}{cn:Str}{D0:Ends}{b₀:Stmt}{suite:List Stmt}{np hpos:Pos}(I:Inv X pins σ H s)(hos:s'.os=s.os)(bare:AllBare s'.gens)(un:Un (frs X.stack) [] H H' s.heap s'.heap)(hok:HOk X.prog X.w H' s'.heap)
 (fx:H' x=none) (fT:H' T=none) (ox:s.heap.get? x=none) (oT:s.heap.get? T=none) (tr:Trc s'.heap x C t T) (hst:X.stack=X.env::X.outer) (hf:X.env.frame=some X.env.locals)
 (hg:Gl X cn) (hm:X.mg cn=some (.ref D)) (hC:Z66 X.K C) (hD:excIn X.K D Z0B "ValueError.__new__" = true) (hb:mroIn X.K C (.ref D)=some true)
 (go:∀ s7,Inv (X.marked x) pins σ (upd H' x (Z2f x C)) s7→wpAny (model X.prog X.w) (X.marked x).A (execs (b₀::suite) X.env) (SP (X.marked x) pins D0) (λ_ _=>False) s7)
 (hd:(cn == ("__debug__" : Str))=false:=by decide) :
 wpAny (model X.prog X.w) X.A (noteFrame (.ref x) X.env) (λ_ s₂=>wpAny (model X.prog X.w) X.A (setFlight (.ref x) none) (λ_ s₃=>wpAny (model X.prog X.w) X.A (handleBy (.ref x) X.env [.ExceptHandler (some (.Name cn np)) none (b₀::suite) hpos]) (SP X pins D0) X.xe s₃) X.xe s₂) X.xe s':=by
 have J:Inv X pins σ H' s':=I.call' hos un hok bare (λb z=>absurd z (by simp));obtain⟨oe,vs,oT',ts,a1,a2,a3,a4,a5,a6,a7,a8,a9⟩:=id tr;have hin:∀ env∈X.stack,∀ a,env.frame=some a→a∈frs X.stack++[x,T]:=λenv he a ha=>List.mem_append_left _ (List.mem_filterMap.mpr ⟨env,he,ha⟩);have fl:Heap.FlyingW (hideAll s'.heap (frs X.stack++[x,T])) X.stack x (.ref C) (.ref t) s'.heap:=
  ⟨λb o e=>of_hideAll _ e,hideAll_none _ (List.mem_append_right _ (by simp)),funFrames_hide J.stack hin,oe,vs,T,oT',ts,a1,⟨a2,a4⟩,a3,a5,hideAll_none _ (List.mem_append_right _ (by simp)),a6,a7,a8,a9⟩
 have hm':∀ b∈[x,T],H' b=none:=λb hb=>by
  rcases List.mem_cons.mp hb with e|hb
  ·rw[e];exact fx
  ·rw[List.mem_singleton.mp hb];exact fT
 generalize hB:hideAll s'.heap (frs X.stack++[x,T])=B at fl;rw[hst] at fl;refine wpAny_looks_onW (by rw[I.ok.frames,hst]) hf fl λh4 held4 up4=>?_;refine wpAny_landsW held4 λh5 fl5 up5=>?_;have up:s'.heap.UpToSlots h5:=up4.trans up5;have J5:Inv X pins σ H' { s' with heap:=h5 }:=I.call' (s':={ s' with heap:=h5 }) hos (Z1v un J (by rw[hB];exact fl5.1) up ox oT) (JK J (by rw[hB];exact fl5.1) hm') bare (λb z=>absurd z (by simp));obtain⟨nm,qn,N,bs,tl,hd',sn,sub,ab,col,dd,k0,k1,k2,k3,k5,nid,o0⟩:=hC;have o1:=J5.kIn _ _ o0;obtain⟨tl',N',nm',qn',bs',hd'',sn',sub',ab',col',dd',k0',k1',k2',k3',k5',mN',p1,p2,p3,p4⟩:=Z3q J5.kIn hD;obtain⟨ob,hob,hobc⟩:=fl5.there;have hct:(Value.ref C::tl).contains (.ref D)=true:=by
  obtain⟨cd,q1,q2⟩:=Option.bind_eq_some_iff.mp hb;unfold clsIn at q1
  split at q1
  ·rename_i c1 c2 cd' c3 look;cases q1;have e:=J5.kIn _ _ look;rw[o1] at e;cases e
   split at q2
   ·cases q2
   ·exact Option.some.inj q2
  ·cases q1
 refine wpAny_handleBy_cons (codeAny_handlers_test (YV (X:=X.marked x) (J5.marked x) hg hm (Z3j o1 p1 hob hobc (p4.hasType PySem.F.excBase_ValueError.hasBase) hct (codeAny_handlers_suite ?_)) hd)) (by intro q;cases q);refine lands_againW fl5 λh6 fl6 up6=>?_;have up':s'.heap.UpToSlots h6:=up.trans up6;have un6:=Z1v un J (by rw[hB];exact fl6.1) up' ox oT;have hok6:=JK J (by rw[hB];exact fl6.1) hm';obtain⟨oe6,vs6,g1,g2,g3,g4⟩:=fl6.first;have ne:∀ b o,s.heap.get? b=some o→b≠x:=λb o e z=>by rw[z,ox] at e;cases e
 have ne':∀ b o,H' b=some o→b≠x:=λb o e z=>by rw[z,fx] at e;cases e
 have un7:Un (frs X.stack) [] H (upd H' x (Z2f x C)) s.heap h6:=⟨un6.keep,un6.slot,λb o e z q=>by rw[Z2 (ne b o e)];exact un6.free b o e z q,un6.there,
  λb xs e=>by have:=un6.tups b xs e;rw[Z2 (ne' _ _ this)];exact this,λb o u e=>by have:=un6.frzs b o u e;rw[Z2 (ne' _ _ this)];exact this,
  λb ps e=>by obtain⟨more,q⟩:=un6.tbls b ps e;exact⟨more,by rw[Z2 (ne' _ _ q)];exact q⟩⟩
 have hok7:HOk X.prog X.w (upd H' x (Z2f x C)) h6:=λb o e=>by
  by_cases hbx:b=x
  ·subst hbx;rw[Z1] at e;cases e;exact⟨⟨oe6,vs6,g1,g2,g3⟩,⟨_,g1⟩,λh1 h2 ⟨u1,u2,v1,v2,v3⟩ kk=>⟨u1,u2,kk _ v1,v2,v3⟩⟩
  ·rw[Z2 hbx] at e;exact (hok6 b o e).stay (λc u _ q=>q) (λc q=>by rw[Z2 (ne' _ _ q)];exact q) λc xs q=>by rw[Z2 (ne' _ _ q)];exact q
 have J6:Inv X pins σ (upd H' x (Z2f x C)) { s' with heap:=h6 }:=I.call' (s':={ s' with heap:=h6 }) hos un7 hok7 bare (λb z=>absurd z (by simp));refine wpAny_mono (go _ (J6.marked x)) (λf s8 q=>?_) λ_ _ z=>z.elim;cases f with
 | next=>
   obtain⟨σ',H9,I9,d⟩:=q;exact⟨_,H9,I9.unmarked I.ok,d⟩
 | brk=>
   obtain⟨σ',H9,I9,d⟩:=q;exact⟨_,H9,I9.unmarked I.ok,d⟩
 | cont=>
   obtain⟨σ',H9,I9,d⟩:=q;exact⟨_,H9,I9.unmarked I.ok,d⟩
 | ret u=>
   obtain⟨v,σ',H9,I9,r,d⟩:=q;exact⟨v,_,H9,I9.unmarked I.ok,r,d⟩
end
noncomputable def Z7Y (K:Frag)(D:Addr)(tb:TSX)(th:TS):TS:=λD0 σ H=>tb (λσ' cls _ H2=>∃ C,cls=.ref C∧Z66 K C∧mroIn K C (.ref D)=some true∧∀ x,H2 x=none→th D0 σ' (upd H2 x (Z2f x C))) D0 σ H
theorem Z72 {X:Cx}{D:Addr}{cn:Str}{body:List Stmt}{tb:TSX}{th:TS}{b₀:Stmt}{suite:List Stmt}{np hpos pos:Pos}(hst:X.stack=X.env::X.outer)(hfr:X.env.frame=some X.env.locals)(hb:Z3M X body tb)
 (hg:Gl X cn) (hm:X.mg cn=some (.ref D)) (hD:excIn X.K D Z0B "ValueError.__new__" = true) (hsu:∀ x,PSs (X.marked x) (b₀::suite) th)
 (hd:(cn == ("__debug__" : Str))=false:=by decide):PS X (.Try body [.ExceptHandler (some (.Name cn np)) none (b₀::suite) hpos] [] [] pos) (Z7Y X.K D tb th):=by
 intro pins s σ H D0 I h;refine wpAny_Try_except (wpAny_mono (hb pins s σ H D0 _ I h) (λf s1 q=>?_) λee s' q=>?_)
 ·cases f with
  | next=>exact wpAny_execs_nil q
  | ret v=>exact q
  | brk=>exact q
  | cont=>exact q
 ·obtain⟨x,C,t,T,σ1,H1,H',s1,rfl,I1,os,bare,un,hok,fx,fT,ox,oT,tr,C',eC,q1,q2,q3⟩:=q;cases eC;exact Z5w I1 os bare un hok fx fT ox oT tr hst hfr hg hm q1 hD q2 (λs7 I7=>hsu x pins s7 _ _ _ I7 (q3 x fx)) hd
section
variable {X:Cx}{k ix:Nat}{f C:Addr}{fd:FuncData}{ps:List Str}{sp:Sp}{m xn fx:Str}{o:Expr}{ta:TE}{p pos apos spos px:Pos}
theorem Z1F {pl:Sem Bool}(ho:PE X.nox o ta)(c:Cls X.K C)(hm:Meth X.K C m f)(F:FnOk X.prog X.w X.K X.mg X.base (CX1 X.prog X.w) k f fd ps sp)(hr:Room k X.A)(hb:Binds X.K fd ps [])
 (hN:X.N.Nodup) (hix:X.N[ix]? = some xn) (hlx:Loc X.env.scope xn)
 (ht:eval (.Call (.Attribute o m apos) [] [] pos) X.env=(do
   let ov←eval o X.env
   standAt apos.atName
   let (f,first)←holding [ov] (getMethod ov m pl)
   callWith pos f first (backTo pos (starEach [] X.env)) (backToKw pos (keywordEach [] X.env))):=by rfl)
 (hsw:swapsWith (.Call (.Attribute o m apos) [] [] pos) (some (.Name xn px)) spos.line X.env=pure false:=by rfl) (hf:X.fn xn=true∨X.env.scope.names.lookup xn=some .local:=by first|exact .inl rfl|exact .inr rfl|assumption) :
 PSX X (.Assign [.Name xn px] (.Call (.Attribute o m apos) [] [] pos) spos) (Z2Z C m ix sp ta JN):=by
 intro pins s σ H D xx I h;refine wpAny_Assign_Name ?_ hsw;refine methodCall_KW (pl:=pl) (wpAny_mono (ho pins s σ H _ (I.wish _) h) (λu s1 zq=>?_) λ_ _ z=>z.elim) ht;obtain⟨x,H1,I1',rx,a,dx,fs,ex,ea,l,q⟩:=zq;have I1:Inv X pins σ H1 s1:=I1'.unwish;subst ex;obtain rfl:u=Value.ref a:=rx;refine Jw I1 ea c hm l ?_;refine callWith_K0 (first:=[.ref a]) I1.kIn hm.kp (wpAny_mono (Z89 (us:=[.ref a]) (vs:=[.ref a]) F hr hb I1 (.cons rfl .nil) q) (λv s3 zq=>?_) λ_ _ z=>z);obtain⟨y,H3,I3,ry,q3⟩:=zq;exact Z0q I3 hN hix hlx ry (λs4 I4=>⟨_,H3,I4,q3⟩) hf
end
theorem Z76 {X:Cx}{body:List Stmt}{t:TS}{h₀:ExceptHandler}{hs:List ExceptHandler}{pos:Pos}(hb:PSs X.nox body t):PS X (.Try body (h₀::hs) [] [] pos) t:=by
 intro pins s σ H D0 I h;refine wpAny_Try_except (wpAny_mono (hb pins s σ H D0 (I.wish _) h) (λf s1 q=>?_) λee s' q=>q.elim);have q':=SP.unwish q;cases f with
 | next=>exact wpAny_execs_nil q'
 | ret v=>exact q'
 | brk=>exact q'
 | cont=>exact q'
section
variable {prog:Program}{w:World}{A:Around}{EE:Value→Shared→Prop}{s:Shared}{hb:Heap}{L a kS:Addr}{m:Str→Option Value}{P:PySem.Fin→Shared→Prop}
theorem Z69 {e e1:Nat}(h:KatFin hb L m kS a [] e e1 [] (λs4=>P (.done (.ret .none)) s4) s):wpAny (model prog w) A (ksk_end a false #[] e1 (.ref kS) #[]) P EE s:=by
 unfold ksk_end;dsimp only;rw[if_neg (by decide),if_pos (show (#[]:Array Value).size < 2 by simp),if_pos (show (#[]:Array Value).size < 2 by simp)];refine wpAny_bind (wpAny_pure ?_);rw[StateT.run_pure];refine wpAny_bind (wpAny_pure ?_);dsimp only;exact kat_tail (b:=false) (ks:=[]) (out:=[]) (by rw[if_neg (by decide)];show ((#[]:Array Value).zip (#[]:Array Value)).map (·.2) = #[];simp) (by simp) (by simp) rfl h
theorem Z3V {f:Value}{n:Nat}{news:List (Addr×Obj)}(F:Fr hb L s.heap m)(N:News hb L s.heap news)(ho:s.heap.get? a=some (seqObj "list" #[] n))(haL:a≠L)(ha0:hb.get? a=none)(hna:∀ p∈news,p.1≠a)
 (k:∀ kS e1 g,Fr hb L g m→News hb L g ((kS,seqObj "list" #[] 0)::(a,seqObj "list" #[] e1)::news)→a < kS→(∀ q∈news,q.1 < kS)→
   KatFin hb L m kS a [] 0 e1 [] (λs4=>P (.done (.ret .none)) s4) { s with heap:=g }) :
 wpAny (model prog w) A (ksk_tree a f false) P EE s:=by
 have lta:a < s.heap.objs.size:=Heap.lt_size ho;have sb:=Heap.SameBut.update s.heap a (Obj.mapSeq λ_=>(#[]:Array Value));obtain⟨e1,o1⟩:∃ e1,(s.heap.update a (Obj.mapSeq λ_=>(#[]:Array Value))).get? a=some (seqObj "list" #[] e1):=⟨_,get?_update_seq ho λ_=>#[]⟩;have G1:=kas_fr F sb haL ha0;have M1:=kas_news N sb hna;unfold ksk_tree;refine wpAny_bind (listItems_at ho rfl ?_);refine wpAny_bind (listUpdate_at ho rfl ?_ (Nat.zero_le _) (Nat.zero_le _));refine wpAny_bind (seqEpoch_at o1 rfl ?_);refine wpAny_bind (wpAny_newTuple ?_ (Nat.zero_le _));refine wpAny_bind (wpAny_newList ?_ (Nat.zero_le _));refine wpAny_holding ?_;have sz:((s.heap.update a (Obj.mapSeq λ_=>(#[]:Array Value))).push (seqObj "tuple" #[] 0)).objs.size=s.heap.objs.size + 1:=by rw[size_push',Heap.size_update]
 have ltL:=(G1.push (seqObj "tuple" #[] 0)).ns.lt;have at0:(((s.heap.update a (Obj.mapSeq λ_=>(#[]:Array Value))).push (seqObj "tuple" #[] 0)).push (seqObj "list" #[] 0)).get? ((s.heap.update a (Obj.mapSeq λ_=>(#[]:Array Value))).push (seqObj "tuple" #[] 0)).objs.size=some (seqObj "list" #[] 0):=Heap.get?_push_size _ rfl;have K:=k ((s.heap.update a (Obj.mapSeq λ_=>(#[]:Array Value))).push (seqObj "tuple" #[] 0)).objs.size e1 _ ((G1.push (seqObj "tuple" #[] 0)).push (seqObj "list" #[] 0)) (λp hp=>?_) (by rw[sz];exact Nat.lt_succ_of_lt lta) λq hq=>by rw[sz];exact Nat.lt_succ_of_lt (Heap.lt_size (N q hq).1)
 rotate_left
 ·rcases List.mem_cons.mp hp with rfl|hp
  ·exact⟨at0,Nat.ne_of_gt ltL,Heap.get?_none_of_le (Nat.le_trans F.above (Nat.le_of_lt ltL))⟩
  ·rcases List.mem_cons.mp hp with rfl|hp
   ·exact⟨Heap.get?_push_of_some _ (Heap.get?_push_of_some _ o1),haL,ha0⟩
   ·exact⟨Heap.get?_push_of_some _ (Heap.get?_push_of_some _ (M1 p hp).1),(M1 p hp).2⟩
 show wpAny (model prog w) A (ksk_rest a f false #[] e1 _) P EE _;unfold ksk_rest;refine wpAny_bind (wpAny_rule ?_);show wpAny (model prog w) A (bind (forIn (#[]:Array Value) PUnit.unit _) _) P EE _;rw[←Array.forIn_toList];refine wpAny_bind ?_;rw[show (#[]:Array Value).toList=[] from rfl,List.forIn_nil];refine wpAny_pure ?_;dsimp only;refine wpAny_bind (listItems_at at0 rfl ?_);exact Z69 K
theorem Z3i {l:Addr}{f:Addr}{news:List (Addr×Obj)}{Q:Value→Shared→Prop}(F:Fr hb L s.heap m)(N:News hb L s.heap news)(hl:s.heap.IsList l #[])
 (k:∀ D kS e1 g,Fr hb L g m→News hb L g ((kS,seqObj "list" #[] 0)::(D,seqObj "list" #[] e1)::news)→D < kS→(∀ q∈news,q.1 < D)→
   KatFin hb L m kS D [] 0 e1 [] (λs4=>Q (.ref D) s4) { s with heap:=g }) :
 wpAny (model prog w) A (call (.builtin "sorted") [.ref l] [(Str.ofString "key",.ref f)]) Q EE s:=by
 refine call_function_entry_kw kind_sorted plain_sorted entry_sorted (ksk_s1 _ _) ?_;unfold Builtin.«sorted»;refine wpAny_bind (m:=checkCount "sorted" 1 1 _) (wpAny_pure ?_);refine wpAny_bind (collect_list hl ?_ (Nat.zero_le _));refine wpAny_bind (wpAny_newList ?_ (Nat.zero_le _));have sz:((s.heap.push (seqObj "list" #[] 0)).update s.heap.objs.size (Obj.mapSeq (·++#[]))).objs.size=s.heap.objs.size + 1:=by
  rw[Heap.size_update,size_push']
 have at1:(((s.heap.push (seqObj "list" #[] 0)).update s.heap.objs.size (Obj.mapSeq (·++#[]))).push (seqObj "list" #[] 0)).get? (s.heap.objs.size + 1)=some (seqObj "list" #[] 0):=by
  rw[←sz];exact Heap.get?_push_size _ rfl
 have kp:∀ b o,s.heap.get? b=some o→(((s.heap.push (seqObj "list" #[] 0)).update s.heap.objs.size (Obj.mapSeq (·++#[]))).push (seqObj "list" #[] 0)).get? b=some o:=λb o q=>by
  have lt:b < s.heap.objs.size:=Heap.lt_size q;rw[Heap.get?_push_ne _ _ _ (by rw[sz];exact Nat.ne_of_lt (Nat.lt_succ_of_lt lt)),Heap.get?_update_ne _ _ _ _ (Nat.ne_of_lt lt),Heap.get?_push_ne _ _ _ (Nat.ne_of_lt lt)];exact q
 have ltL:L < s.heap.objs.size:=F.ns.lt;show wpAny (model prog w) _ _ _ _ { s with heap:=((s.heap.push (seqObj "list" #[] 0)).update s.heap.objs.size (Obj.mapSeq (·++#[]))).push (seqObj "list" #[] 0) };rw[sz];refine wpAny_bind (wpAny_holding (wpAny_call_entry_kw slot_list_sort ⟨_,at1,rfl⟩ entry_list_sort ?body (ksk_l1 _ _)))
 case body=>
  have ht:=ksk_t1 f (s.heap.objs.size + 1);show wpAny (model prog w) A.in1.in1 (Builtin.«list.sort» ⟨[.ref (s.heap.objs.size + 1)],[(Str.ofString "key",.ref f)]⟩) _ _ _;rw[ht];refine Z3V (s:={ s with heap:=((s.heap.push (seqObj "list" #[] 0)).update s.heap.objs.size (Obj.mapSeq (·++#[]))).push (seqObj "list" #[] 0) }) (F.kept kp) (N.grown kp) at1 (Nat.ne_of_gt (Nat.lt_succ_of_lt ltL))
   (Heap.get?_none_of_le (Nat.le_trans F.above (Nat.le_succ_of_le (Nat.le_of_lt ltL)))) (λp hp=>Nat.ne_of_lt (Nat.lt_succ_of_lt (Heap.lt_size (N p hp).1))) λkS e1 g F' N' l0 l1=>?_
  exact (k _ kS e1 g F' N' l0 λq hq=>Nat.lt_succ_of_lt (Heap.lt_size (N q hq).1)).mono λs4 hq=>⟨_,rfl,wpAny_pure ⟨_,rfl,hq⟩⟩
end
section
variable {X:Cx}{pins:List (Addr×Obj)}{σ:St}{H:Hp}{s:Shared}{k:Nat}{f:Addr}{fd:FuncData}{p:Str}{sp:Sp}
theorem Z3k {l:Addr}{Q:VK}(I:Inv X pins σ H s)(hl:SqL X.K H l [])
 (q:∀ D Hc,Same H Hc→H D=none→Hc D=some (.lst [])→Q (.ref D) Hc) :
 wpAny (model X.prog X.w) X.A (call (.builtin "sorted") [.ref l] [(Str.ofString "key",.ref f)]) (EP X pins σ Q) X.xe s:=by
 obtain⟨its,rv,pp,hz⟩:=I.list hl;have ei:its=[]:=Z1d (as:=[]) rv;subst ei;obtain⟨m,F0⟩:=I.fr;refine Z3i (f:=f) F0 XF pp.isList λD kS e1 h' F' N' l0 lt=>?_;obtain⟨J,hD,hK⟩:=I.byNews2 (t':=s.toks) F0 F' N' l0 lt;obtain⟨n1,n2,n3⟩:=N' (D,_) (.tail _ (.head _));obtain⟨p1,p2,p3⟩:=N' (kS,_) (.head _);have ne:D≠kS:=Nat.ne_of_lt l0;have nfD:NF X D:=λo u z=>by have:=I.base.frzs _ _ _ z;rw[hD] at this;cases this
 have nfK:NF X kS:=λo u z=>by have:=I.base.frzs _ _ _ z;rw[hK] at this;cases this
 have J1:=J.freezeL (d:=kS) Z1 p1;rw[ZU] at J1;have J2:=J1.freezeL (d:=D) (xs:=[]) (by rw[Z2 ne,Z1]) n1;have A0:KeysAt X pins σ H m D kS e1 [] [] 0 _ { s with heap:=h' }:=⟨J2,F',Z1,by rw[Z2 (Ne.symm ne),Z1];rfl,ne,nfD,nfK,λc o z=>by
  rw[Z2 (Z6 z hD),Z2 (Z6 z hK),Z2 (Z6 z hD)];exact z,⟨hD,hK⟩,λj hj=>by simp at hj,⟨n3,p3,n2,p2⟩⟩
 refine A0.end (out:=[]) (by simp) λs4 Hf If Sf eD=>?_;exact⟨.ref D,Hf,If,rfl,q D Hf Sf hD eD⟩
noncomputable def Z0h (K:Frag)(sp:Sp)(Q:VK)(x:V)(H1:Hp):Prop:=∃ (l:Addr) (ps:List Addr) (ks:List (Int×Int)),x=.ref l∧SqL K H1 l (ps.map V.ref)∧ps.length < 64∧
 (∀ Hc,Same H1 Hc→∀ i,i < ps.length→sp [.ref (ps.getD i 0)] Hc (λv H2=>Same Hc H2∧∃ tp,v=.ref tp∧H2 tp=some (.tup (Z0V (ks.getD i (0,0))))) E0)∧
 ∀ D Hc,Same H1 Hc→H1 D=none→Hc D=some (.lst ((Xg ks ps).map V.ref))→Q (.ref D) Hc
noncomputable def Z52 (K:Frag)(sp:Sp)(Q:VK):List V→Hp→Prop
 | [x],H1=>Z0h K sp Q x H1
 | _,_=>False
noncomputable def Z5p (K:Frag)(sp:Sp)(te:TE):TE:=λσ H Q=>te σ H λx H1=>Z0h K sp Q x H1
theorem Z5O {K:Frag}{sp:Sp}{te:TE}{σ:St}{H:Hp}{Q:VK}(q:te σ H λx H1=>Z0h K sp Q x H1):Z5p K sp te σ H Q:=q
theorem Z5B {e:Expr}{te:TE}{fn:Str}{np kp kpos pos:Pos}(F:FnOk X.prog X.w X.K X.mg X.base CX0 k f fd [p] sp)(hr:Room (k + 2) X.A)(hb:Binds X.K fd [p] [])(hg:Gl X "sorted")(hm:X.mg "sorted" = none)(hgf:Gl X fn)(hmf:X.mg fn=some (.ref f))(he:PE X e te)
 (hd:(fn == ("__debug__" : Str))=false:=by decide) (h1:starEach [e] X.env=(false,eval e X.env)::starEach [] X.env:=by rfl) :
 PE X (.Call (.Name "sorted" np) [e] [⟨some "key",.Name fn kp,kpos⟩] pos) (Z5p X.K sp te):=by
 intro pins s σ H Q I h;refine wpAny_Call_Name_kw (Jj I hg hm PyProof.Rows.boot_sorted ?_ (by decide) (by decide));refine callWith_kw (thn ((Z0 he Z4 h1) pos pins s σ H (Z52 X.K sp Q) I h) λus s1 zq=>?_) (by rw[h1];rfl) (by rw[h1];rfl);obtain⟨vs,H1,I1,rv,qq⟩:=zq
 match vs,qq with
 | [x],⟨l,ps,ks,exl,hl,h64,hsp,q⟩=>
   obtain⟨u,rfl,rx⟩:=Xc rv;subst exl;obtain rfl:u=Value.ref l:=rx;refine kws_cons (YV I1 hgf hmf (kws_nil ?_) hd);show wpAny (model X.prog X.w) X.A (call (.builtin "sorted") [.ref l] [(Str.ofString "key",.ref f)]) (EP X pins σ Q) X.xe s1
   by_cases few:2≤ps.length
   ·exact Z49 F hr hb I1 hl few h64 hsp q
   ·cases ps with
    | nil=>
      refine Z3k I1 hl λD Hc S1 n1 e1=>q D Hc S1 n1 ?_;rw[e1];have:Xg ks []=[]:=by unfold Xg;rw[XS (by simp)];rfl
      rw[this];rfl
    | cons a r=>
      cases r with
      | cons b r=>exact absurd (by simp) few
      | nil=>
        refine Z32 F hr hb I1 hl hsp λD Hc S1 n1 e1=>q D Hc S1 n1 ?_;rw[e1];have:Xg ks [a]=[a]:=by unfold Xg;rw[XS (by simp)];rfl
        rw[this];rfl
end
end L2
set_option maxHeartbeats 8000000
local macro_rules | `(tactic| walk_at "s")=>`(tactic| exact⟨rfl,rfl,rfl,by decide +kernel,rfl,by decide +kernel,by decide +kernel⟩)
local macro_rules | `(tactic| walk_at "0")=>`(tactic| exact λ_ _ _ _ _ _ us hl=>match us,hl with|[],_=>rfl)
local macro_rules | `(tactic| walk_at "1")=>`(tactic| exact λ_ _ _ _ _ _ us hl=>match us,hl with|[_],_=>rfl)
local macro_rules | `(tactic| walk_at "2")=>`(tactic| exact λ_ _ _ _ _ _ us hl=>match us,hl with|[_,_],_=>rfl)
local macro_rules | `(tactic| walk_at "3")=>`(tactic| exact λ_ _ _ _ _ _ us hl=>match us,hl with|[_,_,_],_=>rfl)
local macro_rules | `(tactic| walk_at "4")=>`(tactic| exact λ_ _ _ _ _ _ us hl=>match us,hl with|[_,_,_,_],_=>rfl)
local macro_rules | `(tactic| walk_at "5")=>`(tactic| exact λ_ _ _ _ _ _ us hl=>match us,hl with|[_,_,_,_,_],_=>rfl)
local macro_rules | `(tactic| walk_at "6")=>`(tactic| exact λ_ _ _ _ _ _ us hl=>match us,hl with|[_,_,_,_,_,_],_=>rfl)
local macro_rules | `(tactic| walk_at "rd1")=>`(tactic| first
 | ((with_reducible refine' L2.rd_var ?k1 ?_);(case k1=>exact rfl))
 | with_reducible refine L2.rd_c ?_
 | with_reducible refine L2.rd_op ?_
 | with_reducible refine L2.rd_un ?_
 | with_reducible refine L2.rd_I0 ?_
 | with_reducible refine L2.rd_U ?_
 | with_reducible refine L2.rd_eqI ?_
 | with_reducible refine L2.rd_neI ?_
 | with_reducible refine L2.rd_test ?_
 | with_reducible refine L2.rd_bl ?_
 | with_reducible refine L2.rd_tB ?_
 | with_reducible refine L2.rd_seq ?_
 | with_reducible refine L2.rd_next ?_
 | with_reducible refine L2.rd_asg ?_
 | with_reducible refine L2.rd_gname ?_
 | with_reducible refine L2.rd_drop ?_
 | with_reducible refine L2.rd_ret ?_
 | with_reducible refine L2.rd_retN ?_
 | with_reducible refine L2.rd_if ?_
 | with_reducible refine L2.rd_and ?_
 | with_reducible refine L2.rd_or ?_
 | with_reducible refine L2.rd_not ?_
 | with_reducible refine L2.rd_andV ?_
 | with_reducible refine L2.rd_orV ?_
 | with_reducible refine L2.rd_notV ?_
 | with_reducible refine L2.rd_ifE ?_
 | with_reducible refine L2.rd_nil ?_
 | with_reducible refine L2.rd_cons ?_
 | with_reducible refine L2.rd_call ?_
 | with_reducible refine L2.rd_cb ?_
 | with_reducible refine L2.rd_lst ?_
 | with_reducible refine L2.rd_tup ?_
 | with_reducible refine L2.rd_chain ?_
 | with_reducible refine L2.rd_bm ?_
 | with_reducible refine L2.rd_bm0 ?_
 | with_reducible refine L2.rd_gsub ?_
 | with_reducible refine L2.rd_ipI ?_
 | with_reducible refine L2.rd_int_b ?_
 | with_reducible refine L2.rd_fld ?_
 | with_reducible refine L2.rd_sfld ?_
 | with_reducible refine L2.rd_meth ?_
 | with_reducible refine L2.rd_make ?_
 | with_reducible refine L2.rd_dget ?_
 | with_reducible refine L2.rd_dput ?_
 | with_reducible refine L2.rd_raise ?_
 | with_reducible refine L2.rd_items ?_
 | with_reducible refine L2.rd_thaw ?_
 | with_reducible refine L2.rd_sl ?_
 | with_reducible refine L2.rd_part ?_
 | with_reducible refine L2.rd_nopart ?_
 | with_reducible refine L2.rd_sortK ?_
 | with_reducible refine L2.rd_getF ?_
 | ((with_reducible refine' L2.rd_aug ?k1 ?_);(case k1=>exact rfl))
 | ((with_reducible refine L2.rd_I ?k1 ?_);(case k1=>walk_at "rdc"))
 | dsimp only)
local macro_rules | `(tactic| walk_at "rdc")=>`(tactic| first
 | (show (0:Int) < _;first|decide|omega)
 | (show _∧_;refine⟨?_,?_⟩<;>first|decide|omega)
 | (show _∨_;first|exact Or.inr ⟨by decide,by decide⟩|exact Or.inl ⟨by decide,by decide⟩|exact Or.inr ⟨by omega,by omega⟩|exact Or.inl ⟨by omega,by omega⟩)
 | (show _∧_∧_;exact⟨by decide,by decide,by decide⟩))
local macro_rules | `(tactic| walk_at "r")=>`(tactic| repeat (walk_at "rd1"))
local macro_rules | `(tactic| walk_at "rv1")=>`(tactic| first
 | ((with_reducible refine' L2.rd_var ?k1 ?_);(case k1=>exact rfl))
 | with_reducible refine L2.rd_c ?_
 | with_reducible refine L2.rd_op ?_
 | with_reducible refine L2.rd_un ?_
 | with_reducible refine L2.rd_I0 ?_
 | with_reducible refine L2.rd_U ?_
 | with_reducible refine L2.rd_eqI ?_
 | with_reducible refine L2.rd_neI ?_
 | with_reducible refine L2.rd_test ?_
 | with_reducible refine L2.rd_bl ?_
 | with_reducible refine L2.rd_tB ?_
 | ((with_reducible refine L2.rd_seqV ?_);intro _ _)
 | with_reducible refine L2.rd_next ?_
 | with_reducible refine L2.rd_asg ?_
 | with_reducible refine L2.rd_gname ?_
 | with_reducible refine L2.rd_drop ?_
 | with_reducible refine L2.rd_ret ?_
 | with_reducible refine L2.rd_retN ?_
 | with_reducible refine L2.rd_if ?_
 | with_reducible refine L2.rd_and ?_
 | with_reducible refine L2.rd_or ?_
 | with_reducible refine L2.rd_not ?_
 | with_reducible refine L2.rd_andV ?_
 | with_reducible refine L2.rd_orV ?_
 | with_reducible refine L2.rd_notV ?_
 | with_reducible refine L2.rd_ifE ?_
 | with_reducible refine L2.rd_nil ?_
 | with_reducible refine L2.rd_cons ?_
 | with_reducible refine L2.rd_call ?_
 | with_reducible refine L2.rd_cb ?_
 | with_reducible refine L2.rd_lst ?_
 | with_reducible refine L2.rd_tup ?_
 | with_reducible refine L2.rd_chain ?_
 | with_reducible refine L2.rd_bm ?_
 | with_reducible refine L2.rd_bm0 ?_
 | with_reducible refine L2.rd_gsub ?_
 | with_reducible refine L2.rd_ipI ?_
 | with_reducible refine L2.rd_int_b ?_
 | with_reducible refine L2.rd_fld ?_
 | with_reducible refine L2.rd_sfld ?_
 | with_reducible refine L2.rd_meth ?_
 | with_reducible refine L2.rd_make ?_
 | with_reducible refine L2.rd_dget ?_
 | with_reducible refine L2.rd_dput ?_
 | with_reducible refine L2.rd_raise ?_
 | with_reducible refine L2.rd_items ?_
 | with_reducible refine L2.rd_thaw ?_
 | with_reducible refine L2.rd_sl ?_
 | with_reducible refine L2.rd_part ?_
 | with_reducible refine L2.rd_nopart ?_
 | with_reducible refine L2.rd_sortK ?_
 | with_reducible refine L2.rd_getF ?_
 | ((with_reducible refine' L2.rd_aug ?k1 ?_);(case k1=>exact rfl))
 | ((with_reducible refine L2.rd_I ?k1 ?_);(case k1=>walk_at "rdc"))
 | dsimp only
 | (with_reducible refine L2.Nx.go (by assumption) ?_))
local macro_rules | `(tactic| walk_at "v")=>`(tactic| repeat (walk_at "rv1"))
namespace My
open PySem PySem.Spec PyProof.Rows L2
noncomputable def top (i:Nat):Stmt:=PySem.Challenge.pw_cartelship_k41_whole_long_history.main.body.getD i (.Pass ⟨0,0,0,0⟩)
noncomputable abbrev ZE:Stmt:=top 35
noncomputable abbrev Yn:Stmt:=top 36
noncomputable abbrev Xk:Stmt:=top 37
noncomputable abbrev Ye:Stmt:=top 41
noncomputable abbrev YB:Stmt:=top 42
noncomputable abbrev YS:Stmt:=top 43
noncomputable abbrev ZY:Stmt:=top 44
noncomputable abbrev YD:Stmt:=top 45
noncomputable abbrev YZ:Stmt:=top 46
noncomputable abbrev Xr:Stmt:=top 47
noncomputable abbrev Xa:Stmt:=top 51
noncomputable abbrev X9:Stmt:=top 53
noncomputable abbrev Yc:Stmt:=top 58
noncomputable abbrev Yx:Stmt:=top 59
noncomputable abbrev Yj:Stmt:=top 68
noncomputable abbrev YC:Stmt:=top 69
noncomputable abbrev YR:Stmt:=top 70
noncomputable abbrev Yr:Stmt:=top 73
noncomputable abbrev YT:Stmt:=top 74
noncomputable abbrev ZS:Stmt:=top 75
noncomputable abbrev Yq:Stmt:=top 76
noncomputable abbrev Yb:Stmt:=top 77
noncomputable abbrev Yk:Stmt:=top 78
noncomputable abbrev Y2:Stmt:=top 80
noncomputable abbrev ZX:Stmt:=top 81
noncomputable abbrev Yw:Stmt:=top 82
noncomputable abbrev ZR:Stmt:=top 83
noncomputable abbrev Yf:Stmt:=top 84
noncomputable abbrev Yv:Stmt:=top 85
noncomputable abbrev YX:Stmt:=top 86
noncomputable abbrev Yp:Stmt:=top 88
noncomputable abbrev ZM:Stmt:=top 89
noncomputable abbrev ZN:Stmt:=top 90
noncomputable abbrev XZ:Stmt:=top 94
noncomputable abbrev Xl:Stmt:=top 95
noncomputable abbrev Xy:Stmt:=top 96
noncomputable abbrev X6:Stmt:=top 97
noncomputable abbrev Xj:Stmt:=top 98
noncomputable abbrev Xz:Stmt:=top 99
noncomputable abbrev ZW:Stmt:=top 100
noncomputable abbrev Je:Stmt:=top 101
noncomputable abbrev XA:Stmt:=top 102
noncomputable abbrev Z03:Stmt:=top 103
noncomputable abbrev YW:Stmt:=Zz (top 33) 0
noncomputable abbrev Y6:Stmt:=Zz (top 34) 0
noncomputable abbrev YA:Stmt:=Zz (top 67) 0
noncomputable abbrev Yz:Stmt:=Zz (top 92) 0
noncomputable abbrev ZZ:Stmt:=Zz (top 92) 1
noncomputable abbrev YE:Stmt:=Zz (top 92) 2
noncomputable abbrev Ys:Stmt:=Zz (top 92) 3
noncomputable abbrev YG:Stmt:=Zz (top 92) 5
noncomputable abbrev YU:Stmt:=Zz (top 92) 6
noncomputable abbrev Y7:Stmt:=Zz (top 92) 8
noncomputable abbrev Y4:Stmt:=Zz (top 92) 9
noncomputable abbrev YF:Stmt:=Zz (top 92) 10
noncomputable abbrev Yt:Stmt:=Zz (top 92) 11
noncomputable abbrev Yy:Stmt:=Zz (top 92) 12
noncomputable abbrev Yu:Stmt:=Zz (top 92) 14
noncomputable abbrev Yi:Stmt:=Zz (top 92) 18
noncomputable abbrev Yg:Stmt:=Zz (top 92) 21
noncomputable abbrev ZQ:Stmt:=Zz (top 92) 22
noncomputable abbrev Y5:Stmt:=Zz (top 92) 23
noncomputable abbrev Y3:Stmt:=Zz (top 92) 24
noncomputable abbrev Yh:Stmt:=Zz (top 92) 26
noncomputable abbrev X2:List Str:=["man","side","claim"]
theorem Zbo:FnScope ["man","side","claim"] ["man"] (Z3 ZE):=by walk_at "s"
noncomputable abbrev Z3L:List Str:=["man"]
theorem Z3b:FnScope ["man"] ["man"] (Z3 Yn):=by walk_at "s"
theorem Z4s:FnScope ["man"] ["man"] (Z3 Xk):=by walk_at "s"
theorem Z1G:FnScope ["man"] ["man"] (Z3 Ye):=by walk_at "s"
theorem Z2n:FnScope ["man"] ["man"] (Z3 YB):=by walk_at "s"
theorem Zcf:FnScope ["muster","day","deed","man","side"] ["muster","day","deed"] (Z3 YS):=by walk_at "s"
theorem Z9S:FnScope ["muster","day","deed","man","side"] ["muster","day","deed"] (Z3 ZY):=by walk_at "s"
theorem Zds:FnScope ["muster","day","deed","man"] ["muster","day","deed"] (Z3 YD):=by walk_at "s"
theorem Zet:FnScope ["muster","day","deed","doing"] ["muster","day","deed"] (Z3 X9):=by walk_at "s"
noncomputable abbrev Z3d:List Str:=["text","signs"]
theorem Z29:FnScope ["text","signs"] ["text","signs"] (Z3 Yc):=by walk_at "s"
theorem Z2l:FnScope ["text"] ["text"] (Z3 Yx):=by walk_at "s"
theorem Z1L:FnScope [] [] (Z3 Yj):=by walk_at "s"
theorem Z2w:FnScope ["page","name"] ["page","name"] (Z3 YC):=by walk_at "s"
theorem Z35:FnScope ["page","name"] ["page","name"] (Z3 YR):=by walk_at "s"
theorem Z2V:FnScope ["rank"] ["rank"] (Z3 Yr):=by walk_at "s"
theorem Z3c:FnScope ["day"] ["day"] (Z3 YT):=by walk_at "s"
theorem Z0e:FnScope ["name","table"] ["name","table"] (Z3 ZS):=by walk_at "s"
theorem Z2T:FnScope ["many","most"] ["many","most"] (Z3 Yq):=by walk_at "s"
noncomputable abbrev Z3m:List Str:=["page","number"]
theorem Z2J:FnScope ["page","number"] ["page","number"] (Z3 Yb):=by walk_at "s"
theorem Z1O:FnScope ["page","deed"] ["page","deed"] (Z3 Yk):=by walk_at "s"
theorem Z11:FnScope ["muster","number","day","deed"] ["muster","number","day","deed"] (Z3 Y2):=by walk_at "s"
theorem Z8Y:FnScope ["page","told","muster","number","day","deed"] ["page","told"] (Z3 ZX):=by walk_at "s"
theorem Z9i:FnScope ["page","last","muster","number","day","deed"] ["page","last"] (Z3 Yw):=by walk_at "s"
theorem Z0f:FnScope ["entry"] ["entry"] (Z3 ZR):=by walk_at "s"
theorem Zd8:FnScope ["page","entries","next_number","deed_list"] ["page","entries","next_number"] (Z3 Yf):=by walk_at "s"
theorem Z2d:FnScope ["page","name"] ["page","name"] (Z3 Yv):=by walk_at "s"
theorem ZdE:FnScope ["page","name","side","rank","man_table"] ["page","name","side","rank"] (Z3 YX):=by walk_at "s"
theorem Zdl:FnScope ["page","number","day","deed","after"] ["page","number","day","deed"] (Z3 Yp):=by walk_at "s"
noncomputable abbrev Z1b:List Str:=["page","number","after"]
theorem ZbG:FnScope ["page","number","after"] ["page","number"] (Z3 ZM):=by walk_at "s"
noncomputable abbrev Z16:List Str:=["page","number","day","entries","after"]
theorem Z9E:FnScope ["page","number","day","entries","after"] ["page","number","day"] (Z3 ZN):=by walk_at "s"
theorem ZdD:FnScope ["_law_script","_law_seed","_law_cell"] ["_law_script"] (Z3 XZ):=by walk_at "s"
theorem ZeQ:FnScope ["_law_number","_law_turn","_law_one"] ["_law_number","_law_turn"] (Z3 Xl):=by walk_at "s"
theorem Zek:FnScope ["_law_box_here","_law_size","_law_left","_law_cell"] ["_law_box_here","_law_size"] (Z3 Xy):=by walk_at "s"
noncomputable abbrev Z61:List Str:=["_law_box_here","_law_alike","_law_letters","_law_size","_law_word","_law_base","_law_at"]
theorem Z9C:FnScope ["_law_box_here","_law_alike","_law_letters","_law_size","_law_word","_law_base","_law_at"] ["_law_box_here","_law_alike"] (Z3 X6):=by walk_at "s"
theorem ZbI:FnScope ["_law_box_here","_law_many","_law_found","_law_turn","_law_name"] ["_law_box_here","_law_many"] (Z3 Xj):=by walk_at "s"
theorem Zea:FnScope ["_law_box_here","_law_sides","_law_men"] ["_law_box_here"] (Z3 Xz):=by walk_at "s"
theorem Z9f:FnScope ["_law_book","_law_word","_law_told"] ["_law_book","_law_word"] (Z3 ZW):=by walk_at "s"
theorem Z6N:FnScope ["_law_book","_law_name","_law_day"] ["_law_book","_law_name","_law_day"] (Z3 Je):=by walk_at "s"
theorem Zf4:FnScope ["_law_box_here","_law_book","_law_name","_law_side","_law_day","_law_rows"] ["_law_box_here","_law_book","_law_name","_law_side","_law_day"] (Z3 XA):=by walk_at "s"
theorem Z9N:FnScope ["_law_script","_law_box_here","_law_pool_here","_law_book","_law_kept","_law_turn","_law_at"] ["_law_script"] (Z3 Z03):=by walk_at "s"
theorem Z36:FnScope ["self","home","grade"] ["self","home","grade"] (Z3 YW):=by walk_at "s"
theorem Za4:FnScope ["self","man_table","cartel_table","name","origin"] ["self","man_table","cartel_table"] (Z3 Y6):=by walk_at "s"
theorem Z2e:FnScope ["self","side_names","man_table","cartel_table","deed_list","next_number"] ["self","side_names","man_table","cartel_table","deed_list","next_number"] (Z3 YA):=by walk_at "s"
theorem Z2F:FnScope ["self"] ["self"] (Z3 Yz):=by walk_at "s"
theorem Z0E:FnScope ["self","page"] ["self","page"] (Z3 ZZ):=by walk_at "s"
theorem Z2G:FnScope ["self"] ["self"] (Z3 YE):=by walk_at "s"
theorem Z2g:FnScope ["self"] ["self"] (Z3 Ys):=by walk_at "s"
theorem Z2m:FnScope ["self","name"] ["self","name"] (Z3 YG):=by walk_at "s"
theorem Z3f:FnScope ["self","name","side","rank"] ["self","name","side","rank"] (Z3 YU):=by walk_at "s"
theorem Z1j:FnScope ["self","number"] ["self","number"] (Z3 Y7):=by walk_at "s"
theorem Z1c:FnScope ["self","number","day"] ["self","number","day"] (Z3 Y4):=by walk_at "s"
theorem Zdu:FnScope ["self","day","deed","number"] ["self","day","deed"] (Z3 YF):=by walk_at "s"
theorem Z2W:FnScope ["self","day","man","side"] ["self","day","man","side"] (Z3 Yt):=by walk_at "s"
theorem Z2q:FnScope ["self","day","man"] ["self","day","man"] (Z3 Yy):=by walk_at "s"
theorem Z20:FnScope ["self","day","man"] ["self","day","man"] (Z3 Yu):=by walk_at "s"
theorem Z1J:FnScope ["self"] ["self"] (Z3 Yi):=by walk_at "s"
theorem Z1M:FnScope ["self"] ["self"] (Z3 Yg):=by walk_at "s"
theorem Z0k:FnScope ["self"] ["self"] (Z3 ZQ):=by walk_at "s"
theorem Z12:FnScope ["self","man","day"] ["self","man","day"] (Z3 Y5):=by walk_at "s"
theorem Z14:FnScope ["self","man","day"] ["self","man","day"] (Z3 Y3):=by walk_at "s"
theorem Z1P:FnScope ["self","man","day"] ["self","man","day"] (Z3 Yh):=by walk_at "s"
set_option genInjectivity false in
structure Ad where
 Z91:Addr
 ZcT:Addr
 Zel:Addr
 Zb6:Addr
 Zcd:Addr
 Z9V:Addr
 Z95:Addr
 Z98:Addr
 ZbX:Addr
 Zdp:Addr
 ZcV:Addr
 Zda:Addr
 ZbS:Addr
 ZbU:Addr
 Zbu:Addr
 Zc1:Addr
 ZcM:Addr
 Zc4:Addr
 ZcL:Addr
 Za1:Addr
 ZbY:Addr
 ZbW:Addr
 Zbw:Addr
 ZaJ:Addr
 Zah:Addr
 ZbQ:Addr
 Z9Y:Addr
 Zbc:Addr
 Zca:Addr
 ZcJ:Addr
 ZbT:Addr
 Za2:Addr
 Zab:Addr
 Zfe:Addr
 Zef:Addr
 ZeK:Addr
 Zed:Addr
 Zeb:Addr
 ZeE:Addr
 Zac:Addr
 Zf7:Addr
 ZeH:Addr
 ZfI:Addr
 Z9X:Addr
 Z97:Addr
 Z9o:Addr
 Z9s:Addr
 Z9j:Addr
 Zax:Addr
 Zaq:Addr
 Zat:Addr
 ZaZ:Addr
 Z9t:Addr
 Z9y:Addr
 Zam:Addr
 Zap:Addr
 Zau:Addr
 Zar:Addr
 Z9D:Addr
 Z9J:Addr
 Z9e:Addr
 Z9x:Addr
 Z9u:Addr
 Z9L:Addr
 Zb8:FuncData
 ZbO:FuncData
 Zdb:FuncData
 ZaL:FuncData
 Zb9:FuncData
 Zcs:FuncData
 Z9F:FuncData
 ZbA:FuncData
 ZdB:FuncData
 Zey:FuncData
 ZdL:FuncData
 ZcK:FuncData
 Zbj:FuncData
 Zbr:FuncData
 ZaE:FuncData
 Zbe:FuncData
 Zck:FuncData
 Zbk:FuncData
 ZbZ:FuncData
 Z9B:FuncData
 Zb5:FuncData
 Zbp:FuncData
 ZaD:FuncData
 Za9:FuncData
 Z9G:FuncData
 Zbm:FuncData
 Z9A:FuncData
 ZaH:FuncData
 Zbn:FuncData
 Zcg:FuncData
 ZbD:FuncData
 Z9Z:FuncData
 Z9W:FuncData
 ZeJ:FuncData
 Zdh:FuncData
 Zeo:FuncData
 Zdj:FuncData
 Zdk:FuncData
 Zej:FuncData
 Za0:FuncData
 ZeG:FuncData
 Zen:FuncData
 Zfc:FuncData
 Zcm:FuncData
 Zai:FuncData
 Zbi:FuncData
 Zbf:FuncData
 Z9M:FuncData
 Zb3:FuncData
 Zby:FuncData
 Zbq:FuncData
 ZbR:FuncData
 Za3:FuncData
 Za7:FuncData
 Zb2:FuncData
 Zb7:FuncData
 Zbg:FuncData
 Zbd:FuncData
 ZaK:FuncData
 ZaU:FuncData
 Z9z:FuncData
 Zaj:FuncData
 Zag:FuncData
 ZaC:FuncData
 Z8X:Addr
 Z8Q:Addr
 Z8G:Addr
 Z8v:Addr
 Z8z:Addr
 Z8s:Addr
 Z8y:Addr
structure Txt (K:W.Frag)(mg:Str→Option Value)(A:Ad):Prop where
 ZcP:mg "sorted" = none
 Zg9:mg "abs" = none
 Zg2:mg "all" = none
 Z9d:mg "len" = none
 ZfV:mg "dict" = none
 ZfZ:mg "max" = none
 ZeZ:mg "list" = none
 Zae:mg "range" = none
 Zg3:mg "int" = none
 Zdi:∃ t,mg "MOST_RANKS" = some (.int 6 t)
 ZeP:∃ t,mg "LETTERS" = some (.str "abcdefghijklmnopqrstuvwxyz" t)
 ZcB:∃ t,mg "MOST_LETTERS" = some (.int 8 t)
 Zdy:∃ t,mg "MOST_SIDES" = some (.int 6 t)
 Zev:∃ t,mg "MOST_MEN" = some (.int 40 t)
 Zdm:∃ t,mg "MOST_DEEDS" = some (.int 120 t)
 Zep:∃ t,mg "LAST_DAY" = some (.int 1000000 t)
 Zc3:∃ t,mg "NO_NUMBER" = some (.int 0 t)
 Z9b:mg "holder_of" = some (.ref A.Z91)
 Z92:Fun K "holder_of" "holder_of" ZE A.Z91 A.Zb8
 Z99:Binds K A.Zb8 ["man"] []
 ZeA:mg "words_of" = some (.ref A.ZcT)
 ZcO:Fun K "words_of" "words_of" Yn A.ZcT A.ZbO
 ZeB:Binds K A.ZbO ["man"] []
 Zf2:mg "way_of" = some (.ref A.Zel)
 Ze9:Fun K "way_of" "way_of" Xk A.Zel A.Zdb
 Zf8:Binds K A.Zdb ["man"] []
 ZbB:mg "need_alive" = some (.ref A.Zb6)
 Z9P:Fun K "need_alive" "need_alive" Ye A.Zb6 A.ZaL
 Zbv:Binds K A.ZaL ["man"] []
 Zcb:mg "need_held" = some (.ref A.Zcd)
 Zao:Fun K "need_held" "need_held" YB A.Zcd A.Zb9
 Zc8:Binds K A.Zb9 ["man"] []
 ZfG:mg "take_man" = some (.ref A.Z9V)
 ZcI:Fun K "take_man" "take_man" YS A.Z9V A.Zcs
 ZeC:Binds K A.Zcs ["muster","day","deed"] []
 ZeI:mg "send_on_word" = some (.ref A.Z95)
 Zaf:Fun K "send_on_word" "send_on_word" ZY A.Z95 A.Z9F
 ZcA:Binds K A.Z9F ["muster","day","deed"] []
 Zfu:mg "send_home" = some (.ref A.Z98)
 Zc2:Fun K "send_home" "send_home" YD A.Z98 A.ZbA
 Ze5:Binds K A.ZbA ["muster","day","deed"] []
 Zfk:mg "give_rank" = some (.ref A.ZbX)
 Zfi:Fun K "give_rank" "give_rank" YZ A.ZbX A.ZdB
 Zfs:Binds K A.ZdB ["muster","day","deed"] []
 ZfT:mg "let_die" = some (.ref A.Zdp)
 ZfQ:Fun K "let_die" "let_die" Xr A.Zdp A.Zey
 ZfU:Binds K A.Zey ["muster","day","deed"] []
 ZfK:mg "exchange" = some (.ref A.ZcV)
 ZfM:Fun K "exchange" "exchange" Xa A.ZcV A.ZdL
 ZfE:Binds K A.ZdL ["muster","day","deed"] []
 ZbK:mg "do_deed" = some (.ref A.Zda)
 Zaz:Fun K "do_deed" "do_deed" X9 A.Zda A.ZcK
 ZbE:Binds K A.ZcK ["muster","day","deed"] []
 Ze0:mg "all_among" = some (.ref A.ZbS)
 ZbV:Fun K "all_among" "all_among" Yc A.ZbS A.Zbj
 ZdY:Binds K A.Zbj ["text","signs"] []
 Ze2:mg "good_name" = some (.ref A.ZbU)
 ZbN:Fun K "good_name" "good_name" Yx A.ZbU A.Zbr
 ZdX:Binds K A.Zbr ["text"] []
 Zdd:mg "empty_page" = some (.ref A.Zbu)
 Zbs:Fun K "empty_page" "empty_page" Yj A.Zbu A.ZaE
 Zdv:Binds K A.ZaE [] []
 Zc9:mg "need_side" = some (.ref A.Zc1)
 Zav:Fun K "need_side" "need_side" YC A.Zc1 A.Zbe
 Zcn:Binds K A.Zbe ["page","name"] []
 ZcH:mg "need_man" = some (.ref A.ZcM)
 ZaY:Fun K "need_man" "need_man" YR A.ZcM A.Zck
 ZcX:Binds K A.Zck ["page","name"] []
 ZdV:mg "need_rank" = some (.ref A.Zc4)
 Zce:Fun K "need_rank" "need_rank" Yr A.Zc4 A.Zbk
 ZdN:Binds K A.Zbk ["rank"] []
 ZcN:mg "need_day" = some (.ref A.ZcL)
 ZaX:Fun K "need_day" "need_day" YT A.ZcL A.ZbZ
 ZcS:Binds K A.ZbZ ["day"] []
 Z9T:mg "need_new_name" = some (.ref A.Za1)
 Z9c:Fun K "need_new_name" "need_new_name" ZS A.Za1 A.Z9B
 Z9U:Binds K A.Z9B ["name","table"] []
 Zan:mg "need_room" = some (.ref A.ZbY)
 Z9p:Fun K "need_room" "need_room" Yq A.ZbY A.Zb5
 Zaw:Binds K A.Zb5 ["many","most"] []
 ZbP:mg "need_deed" = some (.ref A.ZbW)
 Zay:Fun K "need_deed" "need_deed" Yb A.ZbW A.Zbp
 Zci:Binds K A.Zbp ["page","number"] []
 Zdn:mg "need_names" = some (.ref A.Zbw)
 Zbx:Fun K "need_names" "need_names" Yk A.Zbw A.ZaD
 Zdq:Binds K A.ZaD ["page","deed"] []
 Zd4:mg "do_or_break" = some (.ref A.ZaJ)
 ZaT:Fun K "do_or_break" "do_or_break" Y2 A.ZaJ A.Za9
 Zd9:Binds K A.Za9 ["muster","number","day","deed"] []
 Z9l:mg "need_all_let" = some (.ref A.Zah)
 Z96:Fun K "need_all_let" "need_all_let" ZX A.Zah A.Z9G
 Z9k:Binds K A.Z9G ["page","told"] []
 Ze6:mg "muster_on" = some (.ref A.ZbQ)
 Zc7:Fun K "muster_on" "muster_on" Yw A.ZbQ A.Zbm
 ZdM:Binds K A.Zbm ["page","last"] []
 ZbH:mg "place_of_deed" = some (.ref A.Z9Y)
 ZbL:Fun K "place_of_deed" "place_of_deed" ZR A.Z9Y A.Z9A
 ZbM:Binds K A.Z9A ["entry"] []
 Z9H:mg "with_deeds" = some (.ref A.Zbc)
 Z9g:Fun K "with_deeds" "with_deeds" Yf A.Zbc A.ZaH
 Z9R:Binds K A.ZaH ["page","entries","next_number"] []
 ZdP:mg "with_side" = some (.ref A.Zca)
 Zcc:Fun K "with_side" "with_side" Yv A.Zca A.Zbn
 ZdR:Binds K A.Zbn ["page","name"] []
 Zez:mg "with_man" = some (.ref A.ZcJ)
 ZcQ:Fun K "with_man" "with_man" YX A.ZcJ A.Zcg
 Zex:Binds K A.Zcg ["page","name","side","rank"] []
 ZdZ:mg "with_deed" = some (.ref A.ZbT)
 Zcq:Fun K "with_deed" "with_deed" Yp A.ZbT A.ZbD
 Ze1:Binds K A.ZbD ["page","number","day","deed"] []
 Zcx:mg "without_deed" = some (.ref A.Za2)
 Zaa:Fun K "without_deed" "without_deed" ZM A.Za2 A.Z9Z
 Zcw:Binds K A.Z9Z ["page","number"] []
 ZcD:mg "with_new_day" = some (.ref A.Zab)
 Za6:Fun K "with_new_day" "with_new_day" ZN A.Zab A.Z9W
 ZcC:Binds K A.Z9W ["page","number","day"] []
 ZfP:mg "_law_box" = some (.ref A.Zfe)
 Zfb:Fun K "_law_box" "_law_box" XZ A.Zfe A.ZeJ
 ZfS:Binds K A.ZeJ ["_law_script"] []
 Zem:mg "_law_mixed" = some (.ref A.Zef)
 ZcR:Fun K "_law_mixed" "_law_mixed" Xl A.Zef A.Zdh
 Zeh:Binds K A.Zdh ["_law_number","_law_turn"] []
 Z8L:mg "_law_take" = some (.ref A.ZeK)
 Z8H:Fun K "_law_take" "_law_take" Xy A.ZeK A.Zeo
 Z8K:Binds K A.Zeo ["_law_box_here","_law_size"] []
 ZeX:mg "_law_named" = some (.ref A.Zed)
 Zee:Fun K "_law_named" "_law_named" X6 A.Zed A.Zdj
 ZeY:Binds K A.Zdj ["_law_box_here","_law_alike"] []
 Zec:mg "_law_names" = some (.ref A.Zeb)
 ZcW:Fun K "_law_names" "_law_names" Xj A.Zeb A.Zdk
 Zei:Binds K A.Zdk ["_law_box_here","_law_many"] []
 ZfD:mg "_law_pool" = some (.ref A.ZeE)
 ZeM:Fun K "_law_pool" "_law_pool" Xz A.ZeE A.Zej
 ZfC:Binds K A.Zej ["_law_box_here"] []
 Z8U:mg "_law_turned_back" = some (.ref A.Zac)
 Z8M:Fun K "_law_turned_back" "_law_turned_back" ZW A.Zac A.Za0
 Z8S:Binds K A.Za0 ["_law_book","_law_word"] []
 Zcy:mg "_law_now" = some (.ref A.Zf7)
 Zbz:Fun K "_law_now" "_law_now" Je A.Zf7 A.ZeG
 Zcz:Binds K A.ZeG ["_law_book","_law_name","_law_day"] []
 Zfz:mg "_law_next" = some (.ref A.ZeH)
 ZeO:Fun K "_law_next" "_law_next" XA A.ZeH A.Zen
 ZfB:Binds K A.Zen ["_law_box_here","_law_book","_law_name","_law_side","_law_day"] []
 Zg8:mg "law" = some (.ref A.ZfI)
 Zg0:Fun K "law" "law" Z03 A.ZfI A.Zfc
 Zg7:Binds K A.Zfc ["_law_script"] []
 ZfL:W.findIn K (.ref A.Z8G) "__init__" = some (some (.ref A.Z9X))
 Zfl:W.isFn K (.ref A.Z9X)=true
 Zeq:Fun K "__init__" "Man.__init__" YW A.Z9X A.Zcm
 Zes:Binds K A.Zcm ["self","home","grade"] []
 ZeU:W.findIn K (.ref A.Z8v) "__init__" = some (some (.ref A.Z97))
 ZeN:W.isFn K (.ref A.Z97)=true
 Zd3:Fun K "__init__" "Muster.__init__" Y6 A.Z97 A.Zai
 ZaG:Binds K A.Zai ["self","man_table","cartel_table"] []
 Zfo:W.findIn K (.ref A.Z8z) "__init__" = some (some (.ref A.Z9o))
 Zf0:W.isFn K (.ref A.Z9o)=true
 ZdS:Fun K "__init__" "Page.__init__" YA A.Z9o A.Zbi
 Z9q:Binds K A.Zbi ["self","side_names","man_table","cartel_table","deed_list","next_number"] []
 Zfn:W.findIn K (.ref A.Z8s) "__init__" = some (some (.ref A.Z9s))
 Zff:W.isFn K (.ref A.Z9s)=true
 Ze4:Fun K "__init__" "Book.__init__" Yz A.Z9s A.Zbf
 ZdW:Binds K A.Zbf ["self"] []
 Z8T:W.findIn K (.ref A.Z8s) "turn_to" = some (some (.ref A.Z9j))
 Z8P:W.isFn K (.ref A.Z9j)=true
 Z8N:Fun K "turn_to" "Book.turn_to" ZZ A.Z9j A.Z9M
 Z8R:Binds K A.Z9M ["self","page"] []
 ZdU:W.findIn K (.ref A.Z8s) "undo" = some (some (.ref A.Zax))
 Zdw:W.isFn K (.ref A.Zax)=true
 Zct:Fun K "undo" "Book.undo" YE A.Zax A.Zb3
 Ze7:Binds K A.Zb3 ["self"] []
 ZdJ:W.findIn K (.ref A.Z8s) "redo" = some (some (.ref A.Zaq))
 Zdt:W.isFn K (.ref A.Zaq)=true
 Zch:Fun K "redo" "Book.redo" Ys A.Zaq A.Zby
 ZdI:Binds K A.Zby ["self"] []
 Zc6:W.findIn K (.ref A.Z8s) "side" = some (some (.ref A.Zat))
 Zba:W.isFn K (.ref A.Zat)=true
 Zas:Fun K "side" "Book.side" YG A.Zat A.Zbq
 Zcl:Binds K A.Zbq ["self","name"] []
 Zew:W.findIn K (.ref A.Z8s) "man" = some (some (.ref A.ZaZ))
 Ze8:W.isFn K (.ref A.ZaZ)=true
 ZcZ:Fun K "man" "Book.man" YU A.ZaZ A.ZbR
 Zer:Binds K A.ZbR ["self","name","side","rank"] []
 Zd1:W.findIn K (.ref A.Z8s) "strike" = some (some (.ref A.Z9t))
 ZcE:W.isFn K (.ref A.Z9t)=true
 ZaI:Fun K "strike" "Book.strike" Y7 A.Z9t A.Za3
 Zd0:Binds K A.Za3 ["self","number"] []
 Zd7:W.findIn K (.ref A.Z8s) "redate" = some (some (.ref A.Z9y))
 Zcu:W.isFn K (.ref A.Z9y)=true
 ZaP:Fun K "redate" "Book.redate" Y4 A.Z9y A.Za7
 Zd2:Binds K A.Za7 ["self","number","day"] []
 Zak:W.findIn K (.ref A.Z8s) "tell" = some (some (.ref A.Zam))
 Z9K:W.isFn K (.ref A.Zam)=true
 Z9n:Fun K "tell" "Book.tell" YF A.Zam A.Zb2
 Zal:Binds K A.Zb2 ["self","day","deed"] []
 ZdK:W.findIn K (.ref A.Z8s) "take" = some (some (.ref A.Zap))
 Zdc:W.isFn K (.ref A.Zap)=true
 Zc0:Fun K "take" "Book.take" Yt A.Zap A.Zb7
 Ze3:Binds K A.Zb7 ["self","day","man","side"] []
 ZdH:W.findIn K (.ref A.Z8s) "word" = some (some (.ref A.Zau))
 Zdo:W.isFn K (.ref A.Zau)=true
 Zcr:Fun K "word" "Book.word" Yy A.Zau A.Zbg
 ZdO:Binds K A.Zbg ["self","day","man"] []
 ZdT:W.findIn K (.ref A.Z8s) "flee" = some (some (.ref A.Zar))
 Zdr:W.isFn K (.ref A.Zar)=true
 Zco:Fun K "flee" "Book.flee" Yu A.Zar A.Zbd
 ZdG:Binds K A.Zbd ["self","day","man"] []
 Zdz:W.findIn K (.ref A.Z8s) "sides" = some (some (.ref A.Z9D))
 Zd5:W.isFn K (.ref A.Z9D)=true
 Zbt:Fun K "sides" "Book.sides" Yi A.Z9D A.ZaK
 Zde:Binds K A.ZaK ["self"] []
 Zbb:W.findIn K (.ref A.Z8s) "deeds" = some (some (.ref A.Z9J))
 ZaF:W.isFn K (.ref A.Z9J)=true
 Z9I:Fun K "deeds" "Book.deeds" Yg A.Z9J A.ZaU
 Zb4:Binds K A.ZaU ["self"] []
 ZbJ:W.findIn K (.ref A.Z8s) "upcoming" = some (some (.ref A.Z9e))
 Zbl:W.isFn K (.ref A.Z9e)=true
 Z9Q:Fun K "upcoming" "Book.upcoming" ZQ A.Z9e A.Z9z
 ZbF:Binds K A.Z9z ["self"] []
 ZaQ:W.findIn K (.ref A.Z8s) "man_on" = some (some (.ref A.Z9x))
 Za8:W.isFn K (.ref A.Z9x)=true
 Z9v:Fun K "man_on" "Book.man_on" Y5 A.Z9x A.Zaj
 ZaB:Binds K A.Zaj ["self","man","day"] []
 ZaO:W.findIn K (.ref A.Z8s) "stands" = some (some (.ref A.Z9u))
 Zad:W.isFn K (.ref A.Z9u)=true
 Z9w:Fun K "stands" "Book.stands" Y3 A.Z9u A.Zag
 ZaN:Binds K A.Zag ["self","man","day"] []
 Zdf:W.findIn K (.ref A.Z8s) "words" = some (some (.ref A.Z9L))
 Zd6:W.isFn K (.ref A.Z9L)=true
 ZbC:Fun K "words" "Book.words" Yh A.Z9L A.ZaC
 ZdA:Binds K A.ZaC ["self","man","day"] []
 ZeS:mg "CartelError" = some (.ref A.Z8X)
 ZeT:W.excIn K A.Z8X Z0B "ValueError.__new__" = true
 ZcG:mg "NoStep" = some (.ref A.Z8Q)
 Za5:W.excIn K A.Z8Q Z0B "ValueError.__new__" = true
 Zg1:mg "Man" = some (.ref A.Z8G)
 Zeg:mg "Muster" = some (.ref A.Z8v)
 Zdx:mg "Page" = some (.ref A.Z8z)
 ZfR:mg "Book" = some (.ref A.Z8s)
 Zf9:mg "DOINGS" = some (.ref A.Z8y)
 Z8V:Cls K A.Z8G
 Z8J:W.findIn K (.ref A.Z8G) "claims" = some none
 Zb0:W.findIn K (.ref A.Z8G) "dead" = some none
 ZdQ:W.findIn K (.ref A.Z8G) "grade" = some none
 ZcF:W.findIn K (.ref A.Z8G) "home" = some none
 ZfO:Mk K A.Z8G A.Z9X
 Z8Z:Cls K A.Z8v
 ZaV:W.findIn K (.ref A.Z8v) "balances" = some none
 Z8I:W.findIn K (.ref A.Z8v) "roster" = some none
 ZaW:W.findIn K (.ref A.Z8v) "treaties" = some none
 Zdg:Mk K A.Z8v A.Z97
 Z8u:Cls K A.Z8z
 Z8D:W.findIn K (.ref A.Z8z) "cartel_table" = some none
 Z8x:W.findIn K (.ref A.Z8z) "deed_list" = some none
 Z8B:W.findIn K (.ref A.Z8z) "man_table" = some none
 Z8A:W.findIn K (.ref A.Z8z) "next_number" = some none
 Z8C:W.findIn K (.ref A.Z8z) "side_names" = some none
 Zcv:Mk K A.Z8z A.Z9o
 Z8t:Cls K A.Z8s
 Z8W:W.findIn K (.ref A.Z8s) "future" = some none
 Z8w:W.findIn K (.ref A.Z8s) "page" = some none
 Z9a:W.findIn K (.ref A.Z8s) "past" = some none
 ZfA:Mk K A.Z8s A.Z9s
 ZfW:W.mroIn K A.Z8Q (.ref A.Z8Q)=some true
noncomputable abbrev Zs (A:Ad):List (Str×Addr):=[("take",A.Z9V),("word",A.Z95),("free",A.Z98),("flee",A.Z98),("rank",A.ZbX),("die",A.Zdp),("swap",A.ZcV)]
noncomputable def BoxAt (H:Hp)(b l:Addr)(ns:List Int):Prop:=∃ (i left turn seed:Int),H b=some (.lst [.ref l,.int i,.int left,.int turn,.int seed])∧H l=some (.lst (ns.map V.int))∧ns.length≤63∧0≤i∧l≠b
noncomputable def Z6W:Sp:=λvs H Q _=>∃ n t,vs=[.int n,.int t]∧∀ r:Int,0≤r→Q (.int r) H
noncomputable def Z80 (K:W.Frag):Sp:=λvs H Q _=>∃ (a:Addr) (ns:List Int),vs=[.ref a]∧SqL K H a (ns.map V.int)∧ns.length≤63∧∀ (b l:Addr) (H':Hp),H b=none→H l=none→BoxAt H' b l ns→Same H H'→Q (.ref b) H'
noncomputable def Z7t:Sp:=λvs H Q _=>∃ (b l:Addr) (ns:List Int) (m:Int),vs=[.ref b,.int m]∧BoxAt H b l ns∧0 < m∧m < 1073741824∧∀ (r:Int) (H':Hp),0≤r→r < m→BoxAt H' b l ns→Keep b H H'→(∀ c,H c=none→H' c=none)→Q (.int r) H'
theorem BoxAt.put {H:Hp}{b l p:Addr}{ns:List Int}{o:HO}(h:BoxAt H b l ns)(n1:p≠b)(n2:p≠l):BoxAt (upd H p o) b l ns:=by
 obtain⟨i,left,turn,seed,h1,h2,r⟩:=h;exact⟨i,left,turn,seed,by rw[Z2 (Ne.symm n1)];exact h1,by rw[Z2 (Ne.symm n2)];exact h2,r⟩
theorem BoxAt.b {H:Hp}{b l:Addr}{ns:List Int}(h:BoxAt H b l ns):∃ o,H b=some o:=by
 obtain⟨i,left,turn,seed,h1,_⟩:=h;exact⟨_,h1⟩
theorem BoxAt.l {H:Hp}{b l:Addr}{ns:List Int}(h:BoxAt H b l ns):∃ o,H l=some o:=by
 obtain⟨i,left,turn,seed,_,h1,_⟩:=h;exact⟨_,h1⟩
theorem BoxAt.new {H:Hp}{b l p:Addr}{ns:List Int}{o:HO}(h:BoxAt H b l ns)(n:H p=none):p≠b∧p≠l∧BoxAt (upd H p o) b l ns:=by
 obtain⟨o1,e1⟩:=h.b;obtain⟨o2,e2⟩:=h.l;have n1:=Ne.symm (Z6 e1 n);have n2:=Ne.symm (Z6 e2 n);exact⟨n1,n2,h.put n1 n2⟩
theorem XN {H0 H:Hp}{p:Addr}{o:HO}(s:Same H0 H)(n:H0 p=none):Same H0 (upd H p o):=λc u e=>by
 rw[Z2 (Z6 e n)];exact s c u e
theorem Z5T (xs:List Int){r:Int}(h0:0≤r)(h1:r < (xs.length:Int)):∃ v,v∈xs∧atI (xs.map V.int) r=some (.int v):=by
 have hk:r.toNat < xs.length:=by omega
 refine⟨xs[r.toNat],List.getElem_mem hk,?_⟩;have q:atI (xs.map V.int) ((r.toNat:Nat):Int)=some (.int xs[r.toNat]):=Zx (by rw[List.getElem?_map,List.getElem?_eq_getElem hk]<;>rfl);rw[show ((r.toNat:Nat):Int)=r by omega] at q;exact q
theorem XB {t u:TS}{D:Ends}{σ:L2.St}{H:Hp}(M:L2.St→Hp→Prop)(YM:∀ σ' H',M σ' H'→u D σ' H')(now:∀ nx:L2.St→Hp→Prop,(∀ σ' H',M σ' H'→nx σ' H')→t { D with nx:=nx } σ H):Z2z t u D σ H:=now (u D) YM
section
variable {P:Program}{w:World}{K:W.Frag}{mg:Str→Option Value}{base:Heap}{A:Ad}
theorem Z59 (T:Txt K mg A):FnOk P w K mg base CX0 1 A.Zef A.Zdh ["_law_number","_law_turn"] Z6W:=by
 refine T.ZcR.ok ZeQ (λvs H Q E h=>?_) (λcdv A' outer s H vs Q E hr h=>?_)
 ·obtain⟨n,t,rfl,_⟩:=h;rfl
 ·obtain⟨n,t,rfl,k⟩:=h;refine⟨_,(Z7 (Zq (i:=2) ZeQ.nd rfl (Or.inl rfl) (Zl Yo (Zl Yl (Zl Yl (Zl Jd (pv 0) Z5) (Zl Jd (pv 1) Z5)) Z5) Z5))
   (Z8 (Zj (Zl Z00 (Zl Yo (Zl Yl (Zl Yl (Zl Jd (pv 2) (Zl Yl (Zl Yo (pv 2) Z5) Z5)) (Zl Jd (pv 1) Z5)) (Zl Yo (Zl Z00 (pv 0) Z5) Z5)) Z5) Z5)))),?_⟩
  walk_at "r";refine k _ ?_;omega
theorem Z6J (T:Txt K mg A):FnOk P w K mg base CX0 1 A.Zfe A.ZeJ ["_law_script"] (Z80 K):=by
 refine T.Zfb.ok ZdD (λvs H Q E h=>?_) (λcdv A' outer s H vs Q E hr h=>?_)
 ·obtain⟨a,ns,rfl,_⟩:=h;rfl
 ·obtain⟨a,ns,rfl,hS,hlen,k⟩:=h;refine⟨_,(Z7 (Zq (i:=1) ZdD.nd rfl (Or.inl rfl) Z5)
   (Z7 (X1 PassesOwn.never rfl (piL (K:=K) rfl (pv 0)) (Zu (i:=2) ZdD.nd rfl (Or.inl rfl)) (Z8 (Zq (i:=1) ZdD.nd rfl (Or.inl rfl) (Zl Yo (Zl Yl (Zl Yl (Zl Jd (pv 1) Z5) (Zl Yo (pv 2) Z5)) Z5) Z5))))
   (Z8 (Zj (Y0 (Z0 (XU (Z6E (K:=K) rfl) rfl T.ZeZ L2.boot_list (Z0 (pv 0) Z4)) (Z0 Z5 (Z0 Z5 (Z0 Z5 (Z0 (pv 1) Z4)))))))))),?_⟩
  walk_at "r";refine⟨_,rfl,a,rfl,⟨_,hS⟩,Z1X (K:=K) (a:=a) (xs:=ns.map V.int) (λi σ H2=>H2=H∧∃ (z:Int) (v:Option V),σ=[some (.ref a),some (.int z),v]) ⟨rfl,7,none,rfl⟩ (λi σ H2 _ ⟨e,_⟩=>by rw[e];exact hS) ?_ ?_⟩
  ·rintro i y σ H2 hi ⟨rfl,z,v,rfl⟩;obtain⟨c,rfl⟩:∃ c,y=V.int c:=by
    rw[List.getElem?_map] at hi;cases e:ns[i]? with
    | none=>rw[e] at hi;cases hi
    | some c=>rw[e] at hi;exact⟨c,(Option.some.inj hi).symm⟩
   walk_at "r";exact⟨rfl,_,_,rfl⟩
  ·rintro σ H2 ⟨rfl,z,v,rfl⟩;walk_at "r";refine⟨a,_,rfl,.inl hS,λl hl=>?_⟩;walk_at "r";refine⟨by show 5≤sizeLine;decide,λb hb=>?_⟩;have hbl:b≠l:=λe=>by rw[e,Z1] at hb;cases hb
   have hb0:H2 b=none:=by rw[Z2 hbl] at hb;exact hb
   refine k b l _ hb0 hl ⟨0,0,0,z,Z1,?_,hlen,Int.le_refl 0,Ne.symm hbl⟩ ((Same.new hl _).trans (Same.new hb _));rw[Z2 (Ne.symm hbl),Z1]
theorem Jm (T:Txt K mg A):FnOk P w K mg base CX0 2 A.ZeK A.Zeo ["_law_box_here","_law_size"] Z7t:=by
 have Zf5:=@Z59 P w K mg base A T;refine T.Z8H.ok Zek (λvs H Q E h=>?_) (λcdv A' outer s H vs Q E hr h=>?_)
 ·obtain⟨b,l,ns,m,rfl,_⟩:=h;rfl
 ·obtain⟨b,l,ns,m,rfl,⟨i,left,turn,seed,hb,hl,hn,hi,hlb⟩,hm0,hm1,k⟩:=h;refine⟨_,(Z7 (JM (Zl Yl (Zg (ixL (K:=K) rfl) (pv 0) Z5 (λ_ _=>rfl)) Z5) (JS (pv 0) Z5 XD))
   (Z7 (Zr (Zk Z0G (Zg (ixL (K:=K) rfl) (pv 0) Z5 (λ_ _=>rfl)) Z5 (Zp _)) (Z7 (Zq (i:=2) Zek.nd rfl (Or.inl rfl) (Zg (ixL (K:=K) rfl) (pv 0) Z5 (λ_ _=>rfl)))
   (Z7 (JM (Zl Z00 (pv 2) (pv 1)) (JS (pv 0) Z5 XD))
   (Z8 (Zj (Zl Yo (pv 2) (pv 1)))))) Zm)
   (Z7 (Zr (Zk Z6z (Zg (ixL (K:=K) rfl) (pv 0) Z5 (λ_ _=>rfl)) (ZA (XV (K:=K) rfl) rfl T.Z9d PySem.boot_len (Z0 (Zg (ixL (K:=K) rfl) (pv 0) Z5 (λ_ _=>rfl)) Z4)) (Zp _)) (Z8 (Zj (Zl Yo (Za Zf5 (hr.mono (by decide)) rfl T.Zem T.ZcR.kp T.Zeh .nil Z9 (Z0 (Zg (ixL (K:=K) rfl) (pv 0) Z5 (λ_ _=>rfl)) (Z0 (Zg (ixL (K:=K) rfl) (pv 0) Z5 (λ_ _=>rfl)) Z4))) (pv 1)))) Zm)
   (Z7 (Zq (i:=3) Zek.nd rfl (Or.inl rfl) (Zg (ixL (K:=K) rfl) (Zg (ixL (K:=K) rfl) (pv 0) Z5 (λ_ _=>rfl)) (Zg (ixL (K:=K) rfl) (pv 0) Z5 (λ_ _=>rfl)) (λ_ _=>rfl)))
   (Z7 (JM (Zl Yl (Zg (ixL (K:=K) rfl) (pv 0) Z5 (λ_ _=>rfl)) Z5) (JS (pv 0) Z5 XD))
   (Z7 (Zr (Zk Z4j (pv 3) (Zl XC Z5 Z5) (Zp _)) (Z8 (Zj (Zl Yo (Za Zf5 (hr.mono (by decide)) rfl T.Zem T.ZcR.kp T.Zeh .nil Z9 (Z0 (pv 3) (Z0 (Zg (ixL (K:=K) rfl) (pv 0) Z5 (λ_ _=>rfl)) Z4))) (pv 1)))) Zm)
   (Z7 (JM (Zl Z00 (pv 3) (pv 1)) (JS (pv 0) Z5 XD))
   (Z8 (Zj (Zl Yo (pv 3) (pv 1))))))))))),?_⟩
  have upn:∀ {H':Hp}{o:HO}{u:HO}{c:Addr},H' b=some u→H' c=none→upd H' b o c=none:=fun {H' o u c} e h=>by
   rw[Z2 (λz=>by rw[z,e] at h;cases h)];exact h
  have upl:∀ {H':Hp}{o:HO},H' l=some (.lst (ns.map V.int))→upd H' b o l=some (.lst (ns.map V.int)):=fun {H' o} h=>by rw[Z2 hlb];exact h
  walk_at "r";refine Zn (SqL.of hb) rfl ?_;walk_at "r";refine J7 hb rfl ?_;walk_at "r";refine Zn (SqL.of Z1) rfl ?_;walk_at "r";refine Z0A (λc=>?_) (λc=>?_)
  ·walk_at "r";refine Zn (SqL.of Z1) rfl ?_;walk_at "r";refine J7 Z1 rfl ?_;walk_at "r";refine k _ _ (Int.emod_nonneg _ (by omega)) (Int.emod_lt_of_pos _ hm0) ⟨i,_,_,seed,Z1,upl (upl hl),hn,hi,hlb⟩ (Keep.set.trans Keep.set) λc h=>upn Z1 (upn hb h)
  ·walk_at "r";refine Zn (SqL.of Z1) rfl ?_;walk_at "r";refine Zn (SqL.of Z1) rfl ?_;walk_at "r";refine⟨l,_,rfl,.inl (SqL.of (upl hl)),?_⟩;walk_at "r";refine Z0A (λc2=>?_) (λc2=>?_)
   ·walk_at "r";refine Zn (SqL.of Z1) rfl ?_;walk_at "r";refine Zn (SqL.of Z1) rfl ?_;walk_at "r";refine⟨_,_,rfl,λr hr0=>?_⟩;walk_at "r";refine k _ _ (Int.emod_nonneg _ (by omega)) (Int.emod_lt_of_pos _ hm0) ⟨i,_,_,seed,Z1,upl hl,hn,hi,hlb⟩ Keep.set λc h=>upn hb h
   ·have c2':¬ ((ns.map V.int).length:Int)≤i:=of_decide_eq_false (Bool.eq_false_iff.mpr c2);rw[List.length_map] at c2';have hk:i.toNat < ns.length:=by omega
    have hat:atI (ns.map V.int) i=some (.int ns[i.toNat]):=by
     have q:atI (ns.map V.int) ((i.toNat:Nat):Int)=some (.int ns[i.toNat]):=Zx (by rw[List.getElem?_map,List.getElem?_eq_getElem hk]<;>rfl);rw[show ((i.toNat:Nat):Int)=i by omega] at q;exact q
    walk_at "r";refine Zn (SqL.of Z1) rfl ?_;walk_at "r";refine Zn (SqL.of Z1) rfl ?_;refine Zn (SqL.of (upl hl)) hat ?_;walk_at "r";refine Zn (SqL.of Z1) rfl ?_;walk_at "r";refine J7 Z1 rfl ?_;walk_at "r";refine Z0A (λc3=>?_) (λc3=>?_)
    ·walk_at "r";refine Zn (SqL.of Z1) rfl ?_;walk_at "r";refine⟨_,_,rfl,λr hr0=>?_⟩;walk_at "r";refine k _ _ (Int.emod_nonneg _ (by omega)) (Int.emod_lt_of_pos _ hm0) ⟨_,_,_,seed,Z1,upl (upl hl),hn,by omega,hlb⟩ (Keep.set.trans Keep.set) λc h=>upn Z1 (upn hb h)
    ·walk_at "r";refine J7 Z1 rfl ?_;walk_at "r";refine k _ _ (Int.emod_nonneg _ (by omega)) (Int.emod_lt_of_pos _ hm0) ⟨_,_,_,seed,Z1,upl (upl (upl hl)),hn,by omega,hlb⟩ (Keep.set.trans (Keep.set.trans Keep.set)) λc h=>upn Z1 (upn Z1 (upn hb h))
end
structure Ms where
 home:Str
 grade:Int
 dead:Bool
 cl:Option (Str×Int×Bool)
noncomputable abbrev Z3W (m:Ms)(c:Addr):List (Str×V):=[("home",.str m.home),("grade",.int m.grade),("dead",.bl m.dead),("claims",.ref c)]
noncomputable def ClAt (H:Hp)(c:Addr):Option (Str×Int×Bool)→Prop
 | none=>H c=some (.dK [])
 | some q=>∃ t,H c=some (.dK [((Sum.inr q.1:Key),.ref t)])∧H t=some (.tup [.int q.2.1,.bl q.2.2])
noncomputable def ManAt (A:Ad)(H:Hp)(a c:Addr)(m:Ms):Prop:=(∃ d,H a=some (.ins A.Z8G d (Z3W m c)))∧ClAt H c m.cl
noncomputable def ZC (m:Ms):Str:=match m.cl with
 | some (s,_,false)=>s
 | _=>""
theorem ClAt.same {H H':Hp}{c:Addr}{q:Option (Str×Int×Bool)}(h:ClAt H c q)(s:Same H H'):ClAt H' c q:=by
 cases q with
 | none=>exact s _ _ h
 | some q=>obtain⟨t,a,b⟩:=h;exact⟨t,s _ _ a,s _ _ b⟩
theorem ManAt.same {A:Ad}{H H':Hp}{a c:Addr}{m:Ms}(h:ManAt A H a c m)(s:Same H H'):ManAt A H' a c m:=let ⟨⟨d,x⟩,y⟩:=h;⟨⟨d,s _ _ x⟩,y.same s⟩
noncomputable def Z4x (A:Ad):Sp:=λvs H Q _=>∃ (x dx:Addr) (h:Str) (g:Int),vs=[.ref x,.str h,.int g]∧H x=some (.ins A.Z8G dx [])∧∀ (c:Addr) (H':Hp),H c=none→c≠x→(∀ d o,H d=some o→d≠x→H' d=some o)→H' x=some (.ins A.Z8G dx (Z3W ⟨h,g,false,none⟩ c))→H' c=some (.dK [])→Q .non H'
noncomputable def Z5P (A:Ad):Sp:=λvs H Q _=>∃ (a c:Addr) (m:Ms),vs=[.ref a]∧ManAt A H a c m∧∀ H',Same H H'→Q (.str (ZC m)) H'
section
variable {P:Program}{w:World}{K:W.Frag}{mg:Str→Option Value}{base:Heap}{A:Ad}
theorem Z39 (T:Txt K mg A):FnOk P w K mg base CX0 1 A.Z9X A.Zcm ["self","home","grade"] (Z4x A):=by
 refine T.Zeq.ok Z36 (λvs H Q E h=>?_) (λcdv A' outer s H vs Q E hr h=>?_)
 ·obtain⟨x,dx,h,g,rfl,_⟩:=h;rfl
 ·obtain⟨x,dx,h,g,rfl,hx,k⟩:=h;refine⟨_,(Z7 (ZI (pv 0) (pv 1) rfl)
   (Z7 (ZI (pv 0) (pv 2) rfl)
   (Z7 (ZI (pv 0) Xo rfl)
   (Z8 (ZI (pv 0) Z0t rfl))))),?_⟩
  walk_at "r";refine⟨x,_,dx,_,rfl,hx,T.Z8V,T.ZcF,by decide,?_⟩;walk_at "r";refine⟨x,_,dx,_,rfl,Z1,T.Z8V,T.ZdQ,(show 1 < 1000 by decide),?_⟩;walk_at "r";refine⟨x,_,dx,_,rfl,Z1,T.Z8V,T.Zb0,(show 2 < 1000 by decide),?_⟩;walk_at "r";rw[ZU,ZU];intro c hc;have ne:x≠c:=Z6 Z1 hc;have hc0:H c=none:=by rw[Z2 (Ne.symm ne)] at hc;exact hc
  walk_at "r";have e1:(upd (upd H x (.ins A.Z8G dx [("home",.str h),("grade",.int g),("dead",.bl false)])) c (.dK [])) x=some (.ins A.Z8G dx [("home",.str h),("grade",.int g),("dead",.bl false)]):=by rw[Z2 ne,Z1]
  refine⟨x,_,dx,_,rfl,e1,T.Z8V,T.Z8J,(show 3 < 1000 by decide),?_⟩;walk_at "r";refine k c _ hc0 (Ne.symm ne) (λd o e nd=>?_) Z1 ?_
  ·rw[Z2 nd,Z2 (Z6 e hc0),Z2 nd];exact e
  ·rw[Z2 (Ne.symm ne),Z1]
theorem YO (T:Txt K mg A):FnOk P w K mg base CX0 1 A.Z91 A.Zb8 ["man"] (Z5P A):=by
 refine T.Z92.ok Zbo (λvs H Q E h=>?_) (λcdv A' outer s H vs Q E hr h=>?_)
 ·obtain⟨a,c,m,rfl,_⟩:=h;rfl
 ·obtain⟨a,c,m,rfl,⟨⟨d,h1⟩,h2⟩,k⟩:=h;refine⟨_,(Z7 (Z3n (X1 PassesOwn.never rfl (piD (Z0j (Zd (pv 0) rfl))) (pgT (K:=K) (n:=2) rfl rfl (ZV (Zu (i:=1) Zbo.nd rfl (Or.inl rfl)) (ZV (Zu (i:=2) Zbo.nd rfl (Or.inl rfl)) Jc))) (Z8 (Zr (Xd (Xb (Zg (ixT (K:=K) rfl) (pv 2) Z5 (λ_ _=>rfl)))) (Z8 (Zj (pv 1))) Zm))))
   (Z8 (Zj Zw))),?_⟩
  walk_at "r";have go:∀ kvs:List (Key×V),H c=some (.dK kvs)→(∀ i kk x,kvs[i]? = some (kk,x)→i=0∧∃ q t,m.cl=some q∧kk=.inr q.1∧x=.ref t∧H t=some (.tup [.int q.2.1,.bl q.2.2]))→(kvs=[]→m.cl=none)→kvs.length≤1→∃ R,R=()∧Z5u
   (Z5c (Xv CX0 P w K mg base X2 "holder_of" (Z3 ZE) A.Z91 cdv A' outer s H E).nox (Z4p (Z5y (Xv CX0 P w K mg base X2 "holder_of" (Z3 ZE) A.Z91 cdv A' outer s H E).K (XX 0) "claims")))
   (Z5I K 2 (Z4i (Z0P 1) (Z4i (Z0P 2) Z7J))) (Z2U (Z5W (tB (tOp (Z5A K) (XX 2) (tC (V.int 1))))) (Z3C (XX 1)) Z3Z)
   (Z6w (Xv CX0 P w K mg base X2 "holder_of" (Z3 ZE) A.Z91 cdv A' outer s H E).nox { nx:=Z3C (tC (V.str "")) { nx:=λx H'=>Q V.non H',rt:=Q },rt:=Q }) (L2.start X2 [V.ref a]) H:=λkvs hc hk h0 hl=>by
   refine⟨(),rfl,?_⟩;refine⟨_,rfl,a,_,_,_,_,rfl,h1,T.Z8V,T.Z8J,rfl,c,kvs,rfl,Rd.of hc,λv hv=>?_⟩;have sv:=Same.new hv (XQ v c);refine⟨v,c,kvs,rfl,Z1,.inl ⟨sv _ _ hc,λo nf=>?_⟩⟩;have thaw:∀ H2:Hp,(∀ d o2,H d=some o2→d≠c→H2 d=some o2)→H2 c=some (.frz o (.dK kvs))→∃ H3,Th (Xv CX0 P w K mg base X2 "holder_of" (Z3 ZE) A.Z91 cdv A' outer s H E).nox H2 H3∧Same H H3:=λH2 kp hz=>by
    refine⟨_,.inr ⟨c,o,kvs,nf,hz,rfl⟩,λd o2 e=>?_⟩
    by_cases hd:d=c
    ·subst hd;rw[hc] at e;cases e;exact Z1
    ·rw[Z2 hd];exact kp d o2 e hd
   refine Z1n (λi σ2 H2=>(∀ d o2,H d=some o2→d≠c→H2 d=some o2)∧H2 c=some (.frz o (.dK kvs))∧(0 < i→∃ q,m.cl=some q∧q.2.2=true)∧∃ u1 u2,σ2=[some (.ref a),u1,u2]) ⟨λd o2 e ne=>?_,Z1,λz=>absurd z (Nat.lt_irrefl _),none,none,rfl⟩ (λi σ2 H2 _ q=>q.2.1) ?_ ?_
   ·rw[Z2 ne];exact sv _ _ e
   ·rintro i kk x p σ2 H2 ei ⟨kp,hz,hw,u1,u2,rfl⟩ hp;obtain⟨rfl,q,t,eq,rfl,rfl,et⟩:=hk i kk x ei;have sp:=Same.new hp (HO.tup [kV (.inr q.1),V.ref t]);refine⟨p,_,rfl,SqT.of Z1,rfl,_,[V.ref t],rfl,_,[],rfl,rfl,?_⟩;walk_at "r";have et2:=sp _ _ (kp _ _ et (Zi et hc (by simp)));refine⟨t,_,1,_,rfl,rfl,SqT.of et2,rfl,?_⟩;walk_at "r";cases e:q.2.2 with
    | false=>
      refine ZJ rfl ?_;walk_at "r";obtain⟨H3,th,sm⟩:=thaw _ (λd o2 e2 nd=>sp _ _ (kp d o2 e2 nd)) (sp _ _ hz);refine⟨H3,th,?_⟩;have:ZC m=q.1:=by
       unfold ZC;rw[eq];obtain⟨q1,q2,q3⟩:=q;dsimp only at e;subst e;rfl
      rw[←this];exact k H3 sm
    | true=>
      refine Zo (by decide) ?_;walk_at "r";exact⟨λd o2 e2 nd=>sp _ _ (kp d o2 e2 nd),sp _ _ hz,λ_=>⟨q,eq,e⟩,_,_,rfl⟩
   ·rintro σ2 H2 ⟨kp,hz,hw,u1,u2,rfl⟩;obtain⟨H3,th,sm⟩:=thaw _ kp hz;refine⟨H3,th,?_⟩;walk_at "r";have:ZC m="":=by
     unfold ZC;cases e:m.cl with
     | none=>rfl
     | some q=>
       obtain⟨q1,q2,q3⟩:=q;have h3:0 < kvs.length:=by
        cases kvs with
        | nil=>rw[h0 rfl] at e;cases e
        | cons _ _=>simp
       obtain⟨q',e1,e2⟩:=hw h3;rw[e] at e1;cases e1;dsimp only at e2;subst e2;rfl
    rw[←this];exact k H3 sm
  cases e:m.cl with
  | none=>
    rw[e] at h2;obtain⟨_,_,g⟩:=go [] h2 (λi kk x z=>by simp at z) (λ_=>e) (by simp);exact g
  | some q=>
    rw[e] at h2;obtain⟨t,h3,h4⟩:=h2;obtain⟨_,_,g⟩:=go _ h3 (λi kk x z=>by
     match i,z with
     | 0,z=>
       obtain⟨rfl,rfl⟩:Sum.inr q.1=kk∧V.ref t=x:=by simpa using z
       exact⟨rfl,q,t,e,rfl,rfl,h4⟩) (λz=>by simp at z) (by simp)
    exact g
end
noncomputable abbrev JQ:=List (Str×Ms)
noncomputable def YH (men:JQ)(ps:List (Addr×Addr)):List (Key×V):=List.zipWith (λm p=>((Sum.inr m.1:Key),V.ref p.1)) men ps
structure MusterAt (A:Ad)(B H:Hp)(mu ct:Addr)(men:JQ)(ps:List (Addr×Addr))(bal:List (List Key×V)):Prop where
 at':∃ dm ro ba,H mu=some (.ins A.Z8v dm [("roster",.ref ro),("treaties",.ref ct),("balances",.ref ba)])∧H ro=some (.dK (YH men ps))∧H ba=some (.dT bal)∧B ba=none∧∀ p∈ps,p.2≠ro
 len:ps.length=men.length
 man:∀ (i:Nat) (m:Str×Ms) (p:Addr×Addr),men[i]? = some m→ps[i]? = some p→ManAt A H p.1 p.2 m.2
 same:Same B H
 fresh:∀ p∈ps,B p.1=none∧B p.2=none
 nd1:(ps.map (·.1)).Nodup
 nd2:(ps.map (·.2)).Nodup
 names:(men.map (·.1)).Nodup
theorem Z5s {men:JQ}{ps:List (Addr×Addr)}{i:Nat}{m:Str×Ms}{p:Addr×Addr}(e:men[i]? = some m)(f:ps[i]? = some p):(YH men ps)[i]? = some ((Sum.inr m.1:Key),V.ref p.1):=by
 unfold YH;rw[List.getElem?_zipWith,e,f]
theorem Z79 {kvs:List (Key×V)}:∀ {i:Nat}{k:Key}{v:V},kvs[i]? = some (k,v)→(kvs.map (·.1)).Nodup→ZH kvs k=some v:=by
 induction kvs with
 | nil=>intro i k v e;simp at e
 | cons a r ih=>
   intro i k v e nd
   match i,e with
   | 0,e=>
     obtain rfl:a=(k,v):=by simpa using e
     simp[ZH]
   | i + 1,e=>
     have e2:r[i]? = some (k,v):=by simpa using e
     have nd2:=List.nodup_cons.mp nd;have ne:¬ a.1=k:=λz=>nd2.1 (by show a.1∈_;rw[z];exact List.mem_map.mpr ⟨(k,v),List.mem_of_getElem? e2,rfl⟩);have:=ih e2 nd2.2;unfold ZH at this ⊢;rw[List.find?_cons_of_neg (by simpa using ne)];exact this
theorem Z1q {men:JQ}{ps:List (Addr×Addr)}(h:ps.length=men.length):(YH men ps).map (·.1)=men.map λm=>(Sum.inr m.1:Key):=by
 unfold YH
 induction men generalizing ps with
 | nil=>simp
 | cons m r ih=>
   cases ps with
   | nil=>simp at h
   | cons p q=>
     rw[List.zipWith_cons_cons,List.map_cons,List.map_cons,ih (by simpa using h)]
theorem MusterAt.get {A:Ad}{B H:Hp}{mu ct ro:Addr}{men:JQ}{ps:List (Addr×Addr)}{bal:List (List Key×V)}(M:MusterAt A B H mu ct men ps bal){i:Nat}{m:Str×Ms}{p:Addr×Addr}(e:men[i]? = some m)(f:ps[i]? = some p)(hr:H ro=some (.dK (YH men ps))):DGet H ro (.str m.1) (some (.ref p.1)):=by
 have g:=DGet.k (k:=.inr m.1) hr;rw[Z79 (Z5s e f) (by
  rw[Z1q M.len,show (men.map λm=>(Sum.inr m.1:Key))=(men.map (·.1)).map Sum.inr by rw[List.map_map];rfl];exact List.Pairwise.map _ (λa b n z=>n (Sum.inr.inj z)) M.names)] at g
 exact g
theorem Z1D {A:Ad}{H:Hp}{a mu c d dm:Addr}{m:Ms}{fs:List (Str×V)}(h:H a=some (.ins A.Z8G d (Z3W m c)))(hm:H mu=some (.ins A.Z8v dm fs))(l:fs.length≠4):mu≠a:=Zi hm h λe=>by
 injection e with _ _ e
 rw[e] at l;exact l rfl
theorem Xp {α:Type}{l:List α}(nd:l.Nodup){i j:Nat}{a:α}(h1:l[i]? = some a)(h2:l[j]? = some a):i=j:=by
 obtain⟨x,e1⟩:=List.getElem?_eq_some_iff.mp h1;obtain⟨y,e2⟩:=List.getElem?_eq_some_iff.mp h2;have pw:=List.pairwise_iff_getElem.mp nd
 rcases Nat.lt_trichotomy i j with z|z|z
 ·exact absurd (e1.trans e2.symm) (pw i j x y z)
 ·exact z
 ·exact absurd (e2.trans e1.symm) (pw j i y x z)
theorem Z2X {l:List Addr}(h:∀ (j k:Nat) (a:Addr),l[j]? = some a→l[k]? = some a→j=k):l.Nodup:=List.pairwise_iff_getElem.mpr λi j hi hj ij z=>absurd (h i j l[i] (by simp[hi]) (by rw[z];simp[hj])) (Nat.ne_of_lt ij)
theorem MusterAt.put {A:Ad}{B H H':Hp}{mu ct:Addr}{men:JQ}{ps:List (Addr×Addr)}{bal:List (List Key×V)}(M:MusterAt A B H mu ct men ps bal){i:Nat}{m:Str×Ms}{p:Addr×Addr}(e:men[i]? = some m)(f:ps[i]? = some p){m':Ms}{c':Addr}
 (kp:∀ d o,H d=some o→d≠p.1→d≠p.2→H' d=some o) (mn:ManAt A H' p.1 c' m') (hc:c'=p.2∨H c'=none):MusterAt A B H' mu ct (men.set i (m.1,m')) (ps.set i (p.1,c')) bal:=by
 obtain⟨dm,ro,ba,h1,h2,h3,h4,h5⟩:=M.at';obtain⟨⟨d,g1⟩,g2⟩:=M.man i m p e f;have pm:p∈ps:=List.mem_of_getElem? f;obtain⟨f1,f2⟩:=M.fresh p pm;obtain⟨kv,hk⟩:∃ kv,H p.2=some (.dK kv):=by
  cases z:m.2.cl with
  | none=>rw[z] at g2;exact⟨_,g2⟩
  | some q=>rw[z] at g2;obtain⟨t,z1,_⟩:=g2;exact⟨_,z1⟩
 have li:i < ps.length:=(List.getElem?_eq_some_iff.mp f).1;have lm:i < men.length:=(List.getElem?_eq_some_iff.mp e).1;have cfresh:B c'=none∧c'≠ro∧∀ j q,j≠i→ps[j]? = some q→q.2≠c':=by
  rcases hc with rfl|hc
  ·exact⟨f2,h5 p pm,λj q hj ej z=>hj (Xp M.nd2 (a:=p.2) (by rw[List.getElem?_map,ej];simpa using z) (by rw[List.getElem?_map,f];rfl))⟩
  ·refine⟨?_,λz=>(by rw[z,h2] at hc;cases hc),λj q hj ej z=>?_⟩
   ·cases z:B c' with
    | none=>rfl
    | some o=>rw[M.same _ _ z] at hc;cases hc
   ·have lj:j < men.length:=by rw[←M.len];exact (List.getElem?_eq_some_iff.mp ej).1
    obtain⟨_,gj⟩:=M.man j men[j] q (by simp[lj]) ej;rw[z] at gj;cases y:men[j].2.cl with
    | none=>rw[y] at gj;rw[show H c'=_ from gj] at hc;cases hc
    | some q2=>rw[y] at gj;obtain⟨t,y1,_⟩:=gj;rw[y1] at hc;cases hc
 have er:YH (men.set i (m.1,m')) (ps.set i (p.1,c'))=YH men ps:=by
  unfold YH;refine List.ext_getElem? λj=>?_;rw[List.getElem?_zipWith,List.getElem?_zipWith]
  by_cases hj:i=j
  ·subst hj;rw[List.getElem?_set_self lm,List.getElem?_set_self li,e,f]
  ·rw[List.getElem?_set_ne hj,List.getElem?_set_ne hj]
 refine⟨⟨dm,ro,ba,kp _ _ h1 (Z1D g1 h1 (by simp)) (Zi h1 hk (by simp)),?_,kp _ _ h3 (Zi h3 g1 (by simp)) (Zi h3 hk (by simp)),h4,λq hq=>?_⟩,by simp[M.len],λj mj q ej fj=>?_,λd o z=>?_,λq hq=>?_,?_,?_,?_⟩
 ·rw[er];exact kp _ _ h2 (Zi h2 g1 (by simp)) (Ne.symm (h5 p pm))
 ·rcases List.mem_or_eq_of_mem_set hq with z|rfl
  ·exact h5 q z
  ·exact cfresh.2.1
 ·by_cases hj:i=j
  ·subst hj;rw[List.getElem?_set_self lm] at ej;rw[List.getElem?_set_self li] at fj;cases ej;cases fj;exact mn
  ·rw[List.getElem?_set_ne hj] at ej fj;obtain⟨⟨dj,a1⟩,a2⟩:=M.man j mj q ej fj;have n1:q.1≠p.1:=λz=>hj (Xp M.nd1 (a:=p.1) (by rw[List.getElem?_map,f];rfl) (by rw[List.getElem?_map,fj];simpa using z));have n2:q.2≠p.2:=λz=>hj (Xp M.nd2 (a:=p.2) (by rw[List.getElem?_map,f];rfl) (by rw[List.getElem?_map,fj];simpa using z));refine⟨⟨dj,kp _ _ a1 n1 (Zi a1 hk (by simp))⟩,?_⟩;cases y:mj.2.cl with
   | none=>
     rw[y] at a2;exact kp _ _ a2 (Zi a2 g1 (by simp)) n2
   | some q2=>
     rw[y] at a2;obtain⟨t,y1,y2⟩:=a2;exact⟨t,kp _ _ y1 (Zi y1 g1 (by simp)) n2,kp _ _ y2 (Zi y2 g1 (by simp)) (Zi y2 hk (by simp))⟩
 ·exact kp _ _ (M.same _ _ z) (Z6 z f1) (Z6 z f2)
 ·rcases List.mem_or_eq_of_mem_set hq with z|rfl
  ·exact M.fresh q z
  ·exact⟨f1,cfresh.1⟩
 ·have:(ps.set i (p.1,c')).map (·.1)=ps.map (·.1):=by
   rw[List.map_set];refine List.ext_getElem? λj=>?_
   by_cases hj:i=j
   ·subst hj;rw[List.getElem?_set_self (by simpa using li),List.getElem?_map,f];rfl
   ·rw[List.getElem?_set_ne hj]
  rw[this];exact M.nd1
 ·rw[List.map_set];refine Z2X λj k a z1 z2=>?_
  by_cases hj:i=j
  ·by_cases hk2:i=k
   ·omega
   ·subst hj;rw[List.getElem?_set_self (by simpa using li)] at z1;rw[List.getElem?_set_ne hk2,List.getElem?_map] at z2;obtain⟨q,y1,y2⟩:=Option.map_eq_some_iff.mp z2;exact absurd (y2.trans (Option.some.inj z1).symm) (cfresh.2.2 k q (Ne.symm hk2) y1)
  ·rw[List.getElem?_set_ne hj] at z1
   by_cases hk2:i=k
   ·subst hk2;rw[List.getElem?_set_self (by simpa using li)] at z2;rw[List.getElem?_map] at z1;obtain⟨q,y1,y2⟩:=Option.map_eq_some_iff.mp z1;exact absurd (y2.trans (Option.some.inj z2).symm) (cfresh.2.2 j q (Ne.symm hj) y1)
   ·rw[List.getElem?_set_ne hk2] at z2;exact Xp M.nd2 z1 z2
 ·have:(men.set i (m.1,m')).map (·.1)=men.map (·.1):=by
   rw[List.map_set];refine List.ext_getElem? λj=>?_
   by_cases hj:i=j
   ·subst hj;rw[List.getElem?_set_self (by simpa using lm),List.getElem?_map,e];rfl
   ·rw[List.getElem?_set_ne hj]
  rw[this];exact M.names
inductive Deed
 | take (m s:Str)
 | word (m:Str)
 | flee (m:Str)
noncomputable def DeedAt (H:Hp)(dd:Addr):Deed→Prop
 | .take m s=>H dd=some (.tup [.str "take",.str m,.str s])
 | .word m=>H dd=some (.tup [.str "word",.str m])
 | .flee m=>H dd=some (.tup [.str "flee",.str m])
theorem DeedAt.same {H H':Hp}{dd:Addr}{d:Deed}(h:DeedAt H dd d)(s:Same H H'):DeedAt H' dd d:=by
 cases d with
 | take m x=>exact s _ _ h
 | word m=>exact s _ _ h
 | flee m=>exact s _ _ h
inductive StepM (day:Int)(m:Ms):Deed→Ms→Prop
 | take {nm sd:Str}:m.home≠sd→ZC m=""→(m.cl=none∨∃ d,m.cl=some (sd,d,true))→StepM day m (.take nm sd) { m with cl:=some (sd,day,false) }
 | word {nm sd:Str}{d0:Int}:m.cl=some (sd,d0,false)→sd≠""→StepM day m (.word nm) { m with cl:=some (sd,d0,true) }
 | flee {nm sd:Str}{d0:Int}:m.cl=some (sd,d0,false)→sd≠""→StepM day m (.flee nm) { m with cl:=none }
noncomputable def Xw:Deed→Str
 | .take m _=>m
 | .word m=>m
 | .flee m=>m
noncomputable def Z3h (A:Ad):Sp:=λvs H Q _=>∃ (a c:Addr) (m:Ms),vs=[.ref a]∧ManAt A H a c m∧m.dead=false∧Q .non H
noncomputable def Z45 (A:Ad):Sp:=λvs H Q _=>∃ (a c:Addr) (m:Ms),vs=[.ref a]∧ManAt A H a c m∧m.dead=false∧ZC m≠""∧∀ H',Same H H'→Q .non H'
noncomputable def Z1W (A:Ad)(ok:Deed→Prop):Sp:=λvs H Q _=>∃ (B:Hp) (mu ct dd:Addr) (men:JQ) (ps:List (Addr×Addr)) (bal:List (List Key×V)) (day:Int) (i:Nat) (nm:Str) (m m':Ms) (d:Deed),vs=[.ref mu,.int day,.ref dd]∧ok d∧Xw d=nm∧MusterAt A B H mu ct men ps bal∧DeedAt H dd d∧men[i]? = some (nm,m)∧m.dead=false∧StepM day m d m'∧
 ∀ H' ps',MusterAt A B H' mu ct (men.set i (nm,m')) ps' bal→Q .non H'
section
variable {P:Program}{w:World}{K:W.Frag}{mg:Str→Option Value}{base:Heap}{A:Ad}
theorem Jz (T:Txt K mg A):FnOk P w K mg base CX0 1 A.Zb6 A.ZaL ["man"] (Z3h A):=by
 refine T.Z9P.ok Z1G (λvs H Q E h=>?_) (λcdv A' outer s H vs Q E hr h=>?_)
 ·obtain⟨a,c,m,rfl,_⟩:=h;rfl
 ·obtain⟨a,c,m,rfl,⟨⟨d,h1⟩,h2⟩,hd,k⟩:=h;refine⟨_,(Z8 (Zr (Xb (Zd (pv 0) rfl)) (Z8 ZG) Zm)),?_⟩;walk_at "r";refine⟨a,_,_,_,_,rfl,h1,T.Z8V,T.Zb0,rfl,?_⟩;walk_at "r";refine Zo (by rw[hd];decide) ?_;walk_at "r";exact k
theorem JG (T:Txt K mg A):FnOk P w K mg base CX0 2 A.Zcd A.Zb9 ["man"] (Z45 A):=by
 have Zbh:=@Jz P w K mg base A T;have Z8O:=@YO P w K mg base A T;refine T.Zao.ok Z2n (λvs H Q E h=>?_) (λcdv A' outer s H vs Q E hr h=>?_)
 ·obtain⟨a,c,m,rfl,_⟩:=h;rfl
 ·obtain⟨a,c,m,rfl,hm,hdead,hh,k⟩:=h;refine⟨_,(Z7 (Zh (Za Zbh (hr.mono (by decide)) rfl T.ZbB T.Z9P.kp T.Zbv .nil Z9 (Z0 (pv 0) Z4)))
   (Z8 (Zr (Zk Y9 (Za Z8O (hr.mono (by decide)) rfl T.Z9b T.Z92.kp T.Z99 .nil Z9 (Z0 (pv 0) Z4)) Zw (Zp _)) (Z8 ZG) Zm))),?_⟩
  walk_at "r";refine⟨a,c,m,rfl,hm,hdead,?_⟩;walk_at "r";refine⟨a,c,m,rfl,hm,λH1 s1=>?_⟩;walk_at "r";refine⟨rfl,?_⟩;rw[ZD];walk_at "r";refine Zo (λz=>hh (beq_iff_eq.mp z)) ?_;walk_at "r";exact k H1 s1
theorem Z3g (T:Txt K mg A):FnOk P w K mg base CX0 2 A.Z9V A.Zcs ["muster","day","deed"] (Z1W A λd=>∃ m s,d=.take m s):=by
 have Zbh:=@Jz P w K mg base A T;have Z8O:=@YO P w K mg base A T;refine T.ZcI.ok Zcf (λvs H Q E h=>?_) (λcdv A' outer s H vs Q E hr h=>?_)
 ·obtain⟨B,mu,ct,dd,men,ps,bal,day,i,nm,m,m',d,rfl,_⟩:=h;rfl
 ·obtain⟨B,mu,ct,dd,men,ps,bal,day,i,nm,m,m',d,rfl,⟨nm',sd,rfl⟩,rfl,M,hd,em,hdead,st,k⟩:=h
  change men[i]? = some (nm',m) at em
  change ∀ H' ps',MusterAt A B H' mu ct (men.set i (nm',m')) ps' bal→Q .non H' at k
  obtain⟨⟨ho,hh,hcl⟩,rfl⟩:(m.home≠sd∧ZC m=""∧(m.cl=none∨∃ d,m.cl=some (sd,d,true)))∧m' = { m with cl:=some (sd,day,false) }:=by
   cases st with
   | take a b c=>exact⟨⟨a,b,c⟩,rfl⟩
  obtain⟨dm,ro,ba,h1,h2,h3,h4,h5⟩:=M.at';have li:i < ps.length:=by rw[M.len];exact (List.getElem?_eq_some_iff.mp em).1
  obtain⟨p,ep⟩:∃ p,ps[i]? = some p:=⟨ps[i],by simp[li]⟩;obtain⟨⟨d,g1⟩,g2⟩:=M.man i _ p em ep;have hu1:=Xq hr;refine⟨_,(Z7 (Zq (i:=3) Zcf.nd rfl (Or.inl rfl) (J4 hu1 (Zd (pv 0) rfl) (Zg (ixT (K:=K) rfl) (pv 2) Z5 (λ_ _=>rfl)) (λ_ _=>rfl)))
   (Z7 (Zq (i:=4) Zcf.nd rfl (Or.inl rfl) (Zg (ixT (K:=K) rfl) (pv 2) Z5 (λ_ _=>rfl)))
   (Z7 (Zr (Zk Y9 (Zd (pv 3) rfl) (pv 4) (Zp _)) (Z8 ZG) Zm)
   (Z7 (Zh (Za Zbh (hr.mono (by decide)) rfl T.ZbB T.Z9P.kp T.Zbv .nil Z9 (Z0 (pv 3) Z4)))
   (Z7 (Zr (Zk Z1R (Za Z8O (hr.mono (by decide)) rfl T.Z9b T.Z92.kp T.Z99 .nil Z9 (Z0 (pv 3) Z4)) Zw (Zp _)) (Z8 ZG) Zm)
   (Z8 (JY hu1 (Zd (pv 3) rfl) (pv 4) (YN (Z0 (pv 1) (Z0 Xo Z4))) rfl))))))),?_⟩
  walk_at "r";refine⟨mu,_,_,_,_,rfl,h1,T.Z8Z,T.Z8I,rfl,?_⟩;walk_at "r";refine⟨dd,_,1,_,rfl,rfl,SqT.of hd,rfl,?_⟩;refine⟨ro,_,rfl,M.get em ep h2,?_⟩;walk_at "r";refine⟨dd,_,2,_,rfl,rfl,SqT.of hd,rfl,?_⟩;walk_at "r";refine⟨p.1,_,_,_,_,rfl,g1,T.Z8V,T.ZcF,rfl,?_⟩;walk_at "r";refine⟨rfl,?_⟩;rw[ZD];walk_at "r";refine Zo (λz=>ho (beq_iff_eq.mp z)) ?_;walk_at "r";refine⟨p.1,p.2,m,rfl,⟨⟨d,g1⟩,g2⟩,hdead,?_⟩;walk_at "r";refine⟨p.1,p.2,m,rfl,⟨⟨d,g1⟩,g2⟩,λH1 s1=>?_⟩;walk_at "r";refine⟨rfl,?_⟩;rw[ZD];walk_at "r";refine Zo (by rw[beq_iff_eq.mpr hh];decide) ?_;walk_at "r";refine⟨by show 2≤sizeLine;decide,λt ht=>?_⟩;have st:=Same.new ht (HO.tup [.int day,.bl false]);walk_at "r";refine⟨p.1,_,_,_,_,rfl,st _ _ (s1 _ _ g1),T.Z8V,T.Z8J,rfl,?_⟩;walk_at "r";obtain⟨kvs,gc0,gput⟩:∃ kvs:List (Key×V),H p.2=some (.dK kvs)∧kvs.length≤1∧YQ kvs (.inr sd) (.ref t)=[((Sum.inr sd:Key),.ref t)]:=by
   rcases hcl with e|⟨d0,e⟩
   ·rw[e] at g2;exact⟨[],g2,by simp,rfl⟩
   ·rw[e] at g2;obtain⟨t0,y1,y2⟩:=g2;exact⟨_,y1,by simp,by simp[YQ]⟩
  have gc:=st _ _ (s1 _ _ gc0);refine⟨p.2,_,rfl,DPut.k (k:=.inr sd) gc (ZB (by have:=gput.1;omega)),?_⟩;rw[gput.2];walk_at "r";refine k _ (ps.set i (p.1,p.2)) (M.put em ep (m':={ m with cl:=some (sd,day,false) }) (λd2 o2 e2 n1 n2=>?_) ⟨⟨d,?_⟩,t,Z1,?_⟩ (.inl rfl))
  ·rw[Z2 n2];exact st _ _ (s1 _ _ e2)
  ·rw[Z2 (Zi g1 gc0 (by simp))];exact st _ _ (s1 _ _ g1)
  ·rw[Z2 (Ne.symm (Z6 (s1 _ _ gc0) ht)),Z1]
theorem Z0W (T:Txt K mg A):FnOk P w K mg base CX0 3 A.Z95 A.Z9F ["muster","day","deed"] (Z1W A λd=>∃ m,d=.word m):=by
 have Zc5:=@JG P w K mg base A T;have Z8O:=@YO P w K mg base A T;refine T.Zaf.ok Z9S (λvs H Q E h=>?_) (λcdv A' outer s H vs Q E hr h=>?_)
 ·obtain⟨B,mu,ct,dd,men,ps,bal,day,i,nm,m,m',d,rfl,_⟩:=h;rfl
 ·obtain⟨B,mu,ct,dd,men,ps,bal,day,i,nm,m,m',d,rfl,⟨nm',rfl⟩,rfl,M,hd,em,hdead,st,k⟩:=h
  change men[i]? = some (nm',m) at em
  change ∀ H' ps',MusterAt A B H' mu ct (men.set i (nm',m')) ps' bal→Q .non H' at k
  obtain⟨sd,d0,ecl,hsd,rfl⟩:∃ sd d0,m.cl=some (sd,d0,false)∧sd≠""∧m' = { m with cl:=some (sd,d0,true) }:=by
   cases st with
   | word a b=>exact⟨_,_,a,b,rfl⟩
  have hh:ZC m=sd:=by unfold ZC;rw[ecl]
  obtain⟨dm,ro,ba,h1,h2,h3,h4,h5⟩:=M.at';have li:i < ps.length:=by rw[M.len];exact (List.getElem?_eq_some_iff.mp em).1
  obtain⟨p,ep⟩:∃ p,ps[i]? = some p:=⟨ps[i],by simp[li]⟩;obtain⟨⟨d,g1⟩,g2⟩:=M.man i _ p em ep;have g2':=g2;rw[ecl] at g2';obtain⟨t0,y1,y2⟩:=g2';have hu1:=Xq hr;refine⟨_,(Z7 (Zq (i:=3) Z9S.nd rfl (Or.inl rfl) (J4 hu1 (Zd (pv 0) rfl) (Zg (ixT (K:=K) rfl) (pv 2) Z5 (λ_ _=>rfl)) (λ_ _=>rfl)))
   (Z7 (Zh (Za Zc5 (hr.mono (by decide)) rfl T.Zcb T.Zao.kp T.Zc8 .nil Z9 (Z0 (pv 3) Z4)))
   (Z7 (Zq (i:=4) Z9S.nd rfl (Or.inl rfl) (Za Z8O (hr.mono (by decide)) rfl T.Z9b T.Z92.kp T.Z99 .nil Z9 (Z0 (pv 3) Z4)))
   (Z8 (JY hu1 (Zd (pv 3) rfl) (pv 4) (YN (Z0 (Zg (ixT (K:=K) rfl) (J4 hu1 (Zd (pv 3) rfl) (pv 4) (λ_ _=>rfl)) Z5 (λ_ _=>rfl)) (Z0 Xo Z4))) rfl))))),?_⟩
  walk_at "r";refine⟨mu,_,_,_,_,rfl,h1,T.Z8Z,T.Z8I,rfl,?_⟩;walk_at "r";refine⟨dd,_,1,_,rfl,rfl,SqT.of hd,rfl,?_⟩;refine⟨ro,_,rfl,M.get em ep h2,?_⟩;walk_at "r";refine⟨p.1,p.2,m,rfl,M.man i _ p em ep,hdead,by rw[hh];exact hsd,λH0 s0=>?_⟩;walk_at "r";refine⟨p.1,p.2,m,rfl,(M.man i _ p em ep).same s0,λH1 s01=>?_⟩;have s1:=s0.trans s01;rw[hh];walk_at "r";refine⟨p.1,_,_,_,_,rfl,s1 _ _ g1,T.Z8V,T.Z8J,rfl,?_⟩;walk_at "r";have gv:=DGet.k (k:=.inr sd) (s1 _ _ y1);rw[show ZH [((Sum.inr (sd,d0,false).1:Key),V.ref t0)] (.inr sd)=some (.ref t0) by simp[ZH]] at gv;refine⟨p.2,_,rfl,gv,?_⟩;walk_at "r";refine⟨t0,_,0,_,rfl,rfl,SqT.of (s1 _ _ y2),rfl,?_⟩;walk_at "r";refine⟨by show 2≤sizeLine;decide,λt ht=>?_⟩;have st:=Same.new ht (HO.tup [.int d0,.bl true]);walk_at "r";refine⟨p.1,_,_,_,_,rfl,st _ _ (s1 _ _ g1),T.Z8V,T.Z8J,rfl,?_⟩;walk_at "r";refine⟨p.2,_,rfl,DPut.k (k:=.inr sd) (st _ _ (s1 _ _ y1)) (ZB (by simp)),?_⟩;rw[show YQ [((Sum.inr sd:Key),V.ref t0)] (.inr sd) (.ref t)=[((Sum.inr sd:Key),V.ref t)] by simp[YQ]];walk_at "r";refine k _ (ps.set i (p.1,p.2)) (M.put em ep (m':={ m with cl:=some (sd,d0,true) }) (λd2 o2 e2 n1 n2=>?_) ⟨⟨d,?_⟩,t,Z1,?_⟩ (.inl rfl))
  ·rw[Z2 n2];exact st _ _ (s1 _ _ e2)
  ·rw[Z2 (Zi g1 y1 (by simp))];exact st _ _ (s1 _ _ g1)
  ·rw[Z2 (Ne.symm (Z6 (s1 _ _ y1) ht)),Z1]
theorem Z2H (T:Txt K mg A):FnOk P w K mg base CX0 3 A.Z98 A.ZbA ["muster","day","deed"] (Z1W A λd=>∃ m,d=.flee m):=by
 have Zc5:=@JG P w K mg base A T;have Z8O:=@YO P w K mg base A T;refine T.Zc2.ok Zds (λvs H Q E h=>?_) (λcdv A' outer s H vs Q E hr h=>?_)
 ·obtain⟨B,mu,ct,dd,men,ps,bal,day,i,nm,m,m',d,rfl,_⟩:=h;rfl
 ·obtain⟨B,mu,ct,dd,men,ps,bal,day,i,nm,m,m',d,rfl,⟨nm',rfl⟩,rfl,M,hd,em,hdead,st,k⟩:=h
  change men[i]? = some (nm',m) at em
  change ∀ H' ps',MusterAt A B H' mu ct (men.set i (nm',m')) ps' bal→Q .non H' at k
  obtain⟨sd,d0,ecl,hsd,rfl⟩:∃ sd d0,m.cl=some (sd,d0,false)∧sd≠""∧m' = { m with cl:=none }:=by
   cases st with
   | flee a b=>exact⟨_,_,a,b,rfl⟩
  have hh:ZC m=sd:=by unfold ZC;rw[ecl]
  obtain⟨dm,ro,ba,h1,h2,h3,h4,h5⟩:=M.at';have li:i < ps.length:=by rw[M.len];exact (List.getElem?_eq_some_iff.mp em).1
  obtain⟨p,ep⟩:∃ p,ps[i]? = some p:=⟨ps[i],by simp[li]⟩;obtain⟨⟨d,g1⟩,g2⟩:=M.man i _ p em ep;have g2':=g2;rw[ecl] at g2';obtain⟨t0,y1,y2⟩:=g2';have hu1:=Xq hr;refine⟨_,(Z7 (Zq (i:=3) Zds.nd rfl (Or.inl rfl) (J4 hu1 (Zd (pv 0) rfl) (Zg (ixT (K:=K) rfl) (pv 2) Z5 (λ_ _=>rfl)) (λ_ _=>rfl)))
   (Z7 (Zh (Za Zc5 (hr.mono (by decide)) rfl T.Zcb T.Zao.kp T.Zc8 .nil Z9 (Z0 (pv 3) Z4)))
   (Z8 (Zh (Z6h (Zd (pv 3) rfl) (Za Z8O (hr.mono (by decide)) rfl T.Z9b T.Z92.kp T.Z99 .nil Z9 (Z0 (pv 3) Z4)) ⟨rfl,rfl,rfl,rfl⟩))))),?_⟩
  walk_at "r";refine⟨mu,_,_,_,_,rfl,h1,T.Z8Z,T.Z8I,rfl,?_⟩;walk_at "r";refine⟨dd,_,1,_,rfl,rfl,SqT.of hd,rfl,?_⟩;refine⟨ro,_,rfl,M.get em ep h2,?_⟩;walk_at "r";refine⟨p.1,p.2,m,rfl,M.man i _ p em ep,hdead,by rw[hh];exact hsd,λH0 s0=>?_⟩;walk_at "r";refine⟨_,rfl,p.1,_,_,_,_,rfl,s0 _ _ g1,T.Z8V,T.Z8J,rfl,p.2,rfl,?_⟩;refine⟨.inl ⟨_,.inl (s0 _ _ y1)⟩,?_⟩;walk_at "r";refine⟨p.1,p.2,m,rfl,(M.man i _ p em ep).same s0,λH1 s01=>?_⟩;have s1:=s0.trans s01;rw[hh];refine⟨_,.inr sd,V.ref t0,s1 _ _ y1,rfl,by simp[ZH],?_⟩;rw[show Jr [((Sum.inr sd:Key),V.ref t0)] (.inr sd)=[] by simp[Jr]];walk_at "r";refine k _ (ps.set i (p.1,p.2)) (M.put em ep (m':={ m with cl:=none }) (c':=p.2) (λd2 o2 e2 n1 n2=>?_) ⟨⟨d,?_⟩,Z1⟩ (.inl rfl))
  ·rw[Z2 n2];exact s1 _ _ e2
  ·rw[Z2 (Zi g1 y1 (by simp))];exact s1 _ _ g1
end
noncomputable def Z6f (A:Ad):Sp:=λvs H Q E=>Z1W A (λ_=>True) vs H (λ_ H'=>Q .non H') E
noncomputable def Z6V:Sp:=λvs H Q _=>∃ (e dd:Addr) (n d:Int),vs=[.ref e]∧H e=some (.tup [.int n,.int d,.ref dd])∧∀ p,H p=none→Q (.ref p) (upd H p (.tup [.int d,.int n]))
section
variable {P:Program}{w:World}{K:W.Frag}{mg:Str→Option Value}{base:Heap}{A:Ad}
theorem Z0s (T:Txt K mg A):FnOk P w K mg base CX0 1 A.Z9Y A.Z9A ["entry"] Z6V:=by
 refine T.ZbL.ok Z0f (λvs H Q E h=>?_) (λcdv A' outer s H vs Q E hr h=>?_)
 ·obtain⟨e,dd,n,d,rfl,_⟩:=h;rfl
 ·obtain⟨e,dd,n,d,rfl,he,k⟩:=h;refine⟨_,(Z8 (Zj (YN (Z0 (Zg (ixT (K:=K) rfl) (pv 0) Z5 (λ_ _=>rfl)) (Z0 (Zg (ixT (K:=K) rfl) (pv 0) Z5 (λ_ _=>rfl)) Z4))))),?_⟩;walk_at "r";refine⟨e,_,1,_,rfl,rfl,SqT.of he,rfl,?_⟩;walk_at "r";refine⟨e,_,0,_,rfl,rfl,SqT.of he,rfl,?_⟩;walk_at "r";exact⟨by show 2≤sizeLine;decide,k⟩
theorem Jt (T:Txt K mg A)(TD:DictF w K A.Z8y (Zs A)):FnOk P w K mg base CX0 4 A.Zda A.ZcK ["muster","day","deed"] (Z6f A):=by
 refine T.Zaz.ok Zet (λvs H Q E h=>?_) (λcdv A' outer s H vs Q E hr h=>?_)
 ·obtain⟨B,mu,ct,dd,men,ps,bal,day,i,nm,m,m',d,rfl,_⟩:=h;rfl
 ·obtain⟨B,mu,ct,dd,men,ps,bal,day,i,nm,m,m',d,rfl,_,hn,M,hd,em,hdead,st,k⟩:=h;refine⟨_,(Z7 (Zq (i:=3) Zet.nd rfl (Or.inl rfl) (Z6G rfl T.Zf9 TD (Zg (ixT (K:=K) rfl) (pv 2) Z5 (λ_ _=>rfl)) (λ_ _=>rfl)))
   (Z8 (Zh (Z5x (CX:=CX0) (pv 3) Z9 (Z0 (pv 0) (Z0 (pv 1) (Z0 (pv 2) Z4))))))),?_⟩
  walk_at "r";cases d with
  | take a b=>
    refine⟨dd,_,0,_,rfl,rfl,SqT.of hd,rfl,?_⟩;refine⟨_,A.Z9V,rfl,rfl,?_⟩;walk_at "r";refine Z0C rfl ⟨⟨2,_,_,Z3g T,hr.mono (by decide),T.ZeC⟩,T.ZcI.kp⟩ ?_;walk_at "r";exact⟨B,mu,ct,dd,men,ps,bal,day,i,nm,m,m',_,rfl,⟨a,b,rfl⟩,hn,M,hd,em,hdead,st,k⟩
  | word a=>
    refine⟨dd,_,0,_,rfl,rfl,SqT.of hd,rfl,?_⟩;refine⟨_,A.Z95,rfl,rfl,?_⟩;walk_at "r";refine Z0C rfl ⟨⟨3,_,_,Z0W T,hr.mono (by decide),T.ZcA⟩,T.Zaf.kp⟩ ?_;walk_at "r";exact⟨B,mu,ct,dd,men,ps,bal,day,i,nm,m,m',_,rfl,⟨a,rfl⟩,hn,M,hd,em,hdead,st,k⟩
  | flee a=>
    refine⟨dd,_,0,_,rfl,rfl,SqT.of hd,rfl,?_⟩;refine⟨_,A.Z98,rfl,rfl,?_⟩;walk_at "r";refine Z0C rfl ⟨⟨3,_,_,Z2H T,hr.mono (by decide),T.Ze5⟩,T.Zc2.kp⟩ ?_;walk_at "r";exact⟨B,mu,ct,dd,men,ps,bal,day,i,nm,m,m',_,rfl,⟨a,rfl⟩,hn,M,hd,em,hdead,st,k⟩
end
noncomputable def Ym (m:Mn):Str×Ms:=(m.1,⟨m.2.1,m.2.2,false,none⟩)
noncomputable def Z2r (A:Ad):Sp:=λvs H Q _=>∃ (B:Hp) (x dx mt ct:Addr) (kvs:List (Key×V)) (ms:List Mn),vs=[.ref x,.ref mt,.ref ct]∧Same B H∧B x=none∧H x=some (.ins A.Z8v dx [])∧B mt=some (.dK kvs)∧Men B kvs ms∧(ms.map (·.1)).Nodup∧ms.length≤100∧
 ∀ H' ps,MusterAt A B H' x ct (ms.map Ym) ps []→Q .non H'
structure RosAt (A:Ad)(B:Hp)(x dx mt ro:Addr)(ob:Obj)(kvs:List (Key×V))(ms:List Mn)(i:Nat)(ps:List (Addr×Addr))(H:Hp):Prop where
 kp:∀ d o,B d=some o→d≠mt→H d=some o
 hz:H mt=some (.frz ob (.dK kvs))
 hx:H x=some (.ins A.Z8v dx [("roster",.ref ro)])
 hro:H ro=some (.dK (YH ((ms.map Ym).take i) ps))
 bro:B ro=none
 len:ps.length=i
 man:∀ (j:Nat) (m:Mn) (p:Addr×Addr),ms[j]? = some m→ps[j]? = some p→ManAt A H p.1 p.2 (Ym m).2
 fresh:∀ p∈ps,B p.1=none∧B p.2=none∧p.2≠ro
 nd1:(ps.map (·.1)).Nodup
 nd2:(ps.map (·.2)).Nodup
section
variable {P:Program}{w:World}{K:W.Frag}{mg:Str→Option Value}{base:Heap}{A:Ad}
theorem Z50 {men:JQ}{ps:List (Addr×Addr)}{m:Str×Ms}{p:Addr×Addr}(h:ps.length=men.length):YH (men++[m]) (ps++[p])=YH men ps++[((Sum.inr m.1:Key),V.ref p.1)]:=by
 unfold YH;rw[List.zipWith_append h.symm];rfl
theorem Ja (T:Txt K mg A):FnOk P w K mg base CX0 3 A.Z97 A.Zai ["self","man_table","cartel_table"] (Z2r A):=by
 have ZfF:=@Z39 P w K mg base A T;refine T.Zd3.ok Za4 (λvs H Q E h=>?_) (λcdv A' outer s H vs Q E hr h=>?_)
 ·obtain⟨B,x,dx,mt,ct,kvs,ms,rfl,_⟩:=h;rfl
 ·obtain⟨B,x,dx,mt,ct,kvs,ms,rfl,sB,bx,hx,hmt,hms,nd,h100,k⟩:=h;have hu1:=Xq hr;refine⟨_,(Z7 (ZI (pv 0) Z0t rfl)
   (Z7 (Z3n (X1 PassesOwn.never rfl (piD (Z0j (pv 1))) (pgT (K:=K) (n:=2) rfl rfl (ZV (Zu (i:=3) Za4.nd rfl (Or.inl rfl)) (ZV (Zu (i:=4) Za4.nd rfl (Or.inl rfl)) Jc))) (Z8 (JY hu1 (Zd (pv 0) rfl) (pv 3) (Xh T.ZfO ZfF (hr.mono (by decide)) rfl T.Zg1 T.Zes .nil Z9 (Z0 (Zg (ixT (K:=K) rfl) (pv 4) Z5 (λ_ _=>rfl)) (Z0 (Zg (ixT (K:=K) rfl) (pv 4) Z5 (λ_ _=>rfl)) Z4))) rfl))))
   (Z7 (ZI (pv 0) (pv 2) rfl)
   (Z8 (ZI (pv 0) Z2i rfl))))),?_⟩
  walk_at "r";intro ro hro;walk_at "r";have nxr:x≠ro:=Z6 hx hro;refine⟨x,_,dx,_,rfl,by rw[Z2 nxr];exact hx,T.Z8Z,T.Z8I,by decide,?_⟩;walk_at "r";have bro:B ro=none:=by
   cases z:B ro with
   | none=>rfl
   | some o=>rw[sB _ _ z] at hro;cases hro
  have kp0:∀ d o,B d=some o→upd (upd H ro (.dK [])) x (.ins A.Z8v dx [("roster",.ref ro)]) d=some o:=λd o e=>by
   rw[Z2 (Z6 e bx),Z2 (Z6 e bro)];exact sB _ _ e
  have hx0:upd (upd H ro (.dK [])) x (.ins A.Z8v dx [("roster",.ref ro)]) x=some (.ins A.Z8v dx [("roster",.ref ro)]):=Z1;have hr0:upd (upd H ro (.dK [])) x (.ins A.Z8v dx [("roster",.ref ro)]) ro=some (.dK []):=by rw[Z2 (Ne.symm nxr),Z1]
  rw[show ZK "roster" (V.ref ro) []=[(("roster" : Str),V.ref ro)] from rfl];generalize upd (upd H ro (.dK [])) x (.ins A.Z8v dx [("roster",.ref ro)])=H1 at kp0 hx0 hr0 ⊢;refine⟨_,rfl,mt,kvs,rfl,Rd.of (kp0 _ _ hmt),λv hv=>?_⟩;have sv:=Same.new hv (XQ v mt);refine⟨v,mt,kvs,rfl,Z1,.inl ⟨sv _ _ (kp0 _ _ hmt),λob nf=>?_⟩⟩;refine Z1n (λi σ2 H2=>(∃ ps,RosAt A B x dx mt ro ob kvs ms i ps H2)∧∃ u1 u2,σ2=[some (.ref x),some (.ref mt),some (.ref ct),u1,u2]) ⟨⟨[],λd o e ne=>?_,Z1,?_,?_,bro,rfl,λj m p _ z=>by simp at z,λp z=>by simp at z,by simp,by simp⟩,none,none,rfl⟩ (λi σ2 H2 _ q=>let ⟨⟨ps,R⟩,_⟩:=q;R.hz) ?_ ?_
  ·rw[Z2 ne];exact sv _ _ (kp0 _ _ e)
  ·rw[Z2 (Zi hx0 (kp0 _ _ hmt) (by simp))];exact sv _ _ hx0
  ·rw[Z2 (Ne.symm (Z6 hmt bro))];exact sv _ _ hr0
  ·rintro i kk xv p σ2 H2 ei ⟨⟨ps,R⟩,u1,u2,rfl⟩ hp;have lk:i < kvs.length:=(List.getElem?_eq_some_iff.mp ei).1;have lm:i < ms.length:=by rw[←hms.1];exact lk
   obtain⟨m,em⟩:∃ m,ms[i]? = some m:=⟨ms[i],by simp[lm]⟩;obtain⟨tp,a1,a2⟩:=hms.2 i m em;rw[ei] at a1;obtain⟨rfl,rfl⟩:kk=Sum.inr m.1∧xv=V.ref tp:=by
    injection a1 with a1;injection a1 with b1 b2;exact⟨b1,b2⟩
   have sp:=Same.new hp (HO.tup [kV (.inr m.1),V.ref tp]);have tmt:tp≠mt:=Zi a2 hmt (by simp);refine⟨p,_,rfl,SqT.of Z1,rfl,_,[V.ref tp],rfl,_,[],rfl,rfl,?_⟩;walk_at "r";have et:=sp _ _ (R.kp _ _ a2 tmt);refine⟨tp,_,0,_,rfl,rfl,SqT.of et,rfl,?_⟩;walk_at "r";refine⟨tp,_,1,_,rfl,rfl,SqT.of et,rfl,?_⟩;walk_at "r";intro y dy hy hdy ney;refine⟨y,dy,m.2.1,m.2.2,rfl,Z1,λc H3 hc ncy kpc f1 f2=>⟨rfl,?_⟩⟩;have S23:Same H2 H3:=λd o e=>by
    have e1:=sp _ _ e;exact kpc d o (by rw[Z2 (Z6 e1 hy),Z2 (Z6 e1 hdy)];exact e1) (Z6 e1 hy)
   have y2:H2 y=none:=by
    cases z:H2 y with
    | none=>rfl
    | some o=>rw[sp _ _ z] at hy;cases hy
   have c2:H2 c=none:=by
    cases z:H2 c with
    | none=>rfl
    | some o=>
      have e1:=sp _ _ z;rw[Z2 ncy,Z2 (Z6 e1 hdy),e1] at hc;cases hc
   have inB:∀ d,H2 d=none→B d=none:=λd z=>by
    cases e:B d with
    | none=>rfl
    | some o=>
      by_cases hd:d=mt
      ·rw[hd,R.hz] at z;cases z
      ·rw[R.kp _ _ e hd] at z;cases z
   walk_at "r";refine⟨x,_,_,_,_,rfl,S23 _ _ R.hx,T.Z8Z,T.Z8I,rfl,?_⟩;walk_at "r";have lt:((ms.map Ym).take i).length=ps.length:=by rw[List.length_take,List.length_map,R.len];omega
   have nov:ZH (YH ((ms.map Ym).take i) ps) (.inr m.1)=none:=by
    cases z:ZH (YH ((ms.map Ym).take i) ps) (.inr m.1) with
    | none=>rfl
    | some u=>
      exfalso;unfold ZH at z;obtain⟨kv,z1,z2⟩:=Option.map_eq_some_iff.mp z;have z3:kv.1=Sum.inr m.1:=by simpa using List.find?_some z1
      have z4:kv.1∈(YH ((ms.map Ym).take i) ps).map (·.1):=List.mem_map.mpr ⟨kv,List.mem_of_find?_eq_some z1,rfl⟩;rw[Z1q lt.symm,z3] at z4;obtain⟨q,q1,q2⟩:=List.mem_map.mp z4;obtain⟨j,hj,ej⟩:=List.mem_iff_getElem.mp q1;have hj2:j < i:=by simp at hj;omega
      have hj3:j < ms.length:=by omega
      have e5:q.1=m.1:=Sum.inr.inj q2;have e6:q=Ym ms[j]:=by rw[←ej];simp
      rw[e6] at e5;have:=Xp nd (i:=j) (j:=i) (a:=m.1) (by rw[List.getElem?_map];simp[hj3];exact e5) (by rw[List.getElem?_map,em];rfl);omega
   refine⟨ro,_,rfl,DPut.k (k:=.inr m.1) (S23 _ _ R.hro) (ZB (by unfold YH;rw[List.length_zipWith,lt,Nat.min_self,R.len];omega)),?_⟩;rw[Z2h _ nov];walk_at "r";have nro:∀ d o,H2 d=some o→d≠ro→upd H3 ro (.dK (YH ((ms.map Ym).take i) ps++[((Sum.inr m.1:Key),V.ref y)])) d=some o:=λd o e ne=>by rw[Z2 ne];exact S23 _ _ e
   have cr:c≠ro:=λz=>by rw[z,R.hro] at c2;cases c2
   have yr:y≠ro:=λz=>by rw[z,R.hro] at y2;cases y2
   refine⟨⟨ps++[(y,c)],λd o e ne=>?_,nro _ _ R.hz (Zi R.hz R.hro (by simp)),nro _ _ R.hx (Zi R.hx R.hro (by simp)),?_,bro,by simp[R.len],λj mj q ej fj=>?_,λq hq=>?_,?_,?_⟩,_,_,rfl⟩
   ·exact nro _ _ (R.kp _ _ e ne) (Z6 e bro)
   ·rw[Z1];have e7:(ms.map Ym).take (i + 1)=(ms.map Ym).take i++[Ym m]:=by
     rw[List.take_succ,List.getElem?_map,em];rfl
    rw[e7,Z50 lt.symm];rfl
   ·by_cases hj:j < i
    ·rw[List.getElem?_append_left (by rw[R.len];exact hj)] at fj;obtain⟨⟨dj,b1⟩,b2⟩:=R.man j mj q ej fj;have fq:=R.fresh q (List.mem_of_getElem? fj);exact⟨⟨dj,nro _ _ b1 (Zi b1 R.hro (by simp))⟩,nro _ _ b2 fq.2.2⟩
    ·have hj2:j=i:=by
      have:=(List.getElem?_eq_some_iff.mp fj).1;simp[R.len] at this;omega
     subst hj2;rw[List.getElem?_append_right (by rw[R.len];exact Nat.le_refl _),R.len,Nat.sub_self] at fj;rw[em] at ej;cases ej;obtain rfl:(y,c)=q:=by simpa using fj
     exact⟨⟨dy,by rw[Z2 yr];exact f1⟩,by show upd _ _ _ c=_;rw[Z2 cr];exact f2⟩
   ·rcases List.mem_append.mp hq with z|z
    ·exact R.fresh q z
    ·obtain rfl:q=(y,c):=by simpa using z
     exact⟨inB _ y2,inB _ c2,cr⟩
   ·rw[List.map_append];refine List.nodup_append.mpr ⟨R.nd1,by simp,λa ha b hb z=>?_⟩;obtain rfl:b=y:=by simpa using hb
    subst z;obtain⟨q,q1,q2⟩:=List.mem_map.mp ha;obtain⟨j,hj,ej⟩:=List.mem_iff_getElem.mp q1;have hj3:j < ms.length:=by rw[R.len] at hj;omega
    obtain⟨⟨dj,b1⟩,b2⟩:=R.man j ms[j] q (by simp[hj3]) (by simp[hj,ej]);rw[q2,y2] at b1;cases b1
   ·rw[List.map_append];refine List.nodup_append.mpr ⟨R.nd2,by simp,λa ha b hb z=>?_⟩;obtain rfl:b=c:=by simpa using hb
    subst z;obtain⟨q,q1,q2⟩:=List.mem_map.mp ha;obtain⟨j,hj,ej⟩:=List.mem_iff_getElem.mp q1;have hj3:j < ms.length:=by rw[R.len] at hj;omega
    obtain⟨_,b2⟩:=R.man j ms[j] q (by simp[hj3]) (by simp[hj,ej]);have b3:H2 q.2=some (.dK []):=b2;rw[q2,c2] at b3;cases b3
  ·rintro σ2 H2 ⟨⟨ps,R⟩,u1,u2,rfl⟩;refine⟨_,.inr ⟨mt,ob,kvs,nf,R.hz,rfl⟩,?_⟩;have hl:kvs.length=ms.length:=hms.1;have ea:(ms.map Ym).take kvs.length=ms.map Ym:=by rw[hl];exact List.take_of_length_le (by simp)
   have kpB:Same B (upd H2 mt (.dK kvs)):=λd o e=>by
    by_cases hd:d=mt
    ·subst hd;rw[hmt] at e;cases e;exact Z1
    ·rw[Z2 hd];exact R.kp _ _ e hd
   have nmt:∀ d o,H2 d=some o→(∀ u v,o≠.frz u v)→upd H2 mt (.dK kvs) d=some o:=λd o e n=>by
    rw[Z2 λz=>by rw[z,R.hz] at e;cases e;exact n _ _ rfl];exact e
   have hx3:=nmt _ _ R.hx (by simp);have hr3:=nmt _ _ R.hro (by simp);rw[ea] at hr3;have man3:∀ (j:Nat) (m:Str×Ms) (p:Addr×Addr),(ms.map Ym)[j]? = some m→ps[j]? = some p→(∃ d,upd H2 mt (.dK kvs) p.1=some (.ins A.Z8G d (Z3W m.2 p.2)))∧m.2.cl=none∧upd H2 mt (.dK kvs) p.2=some (.dK []):=λj m p ej fj=>by
    rw[List.getElem?_map] at ej;obtain⟨mn,e1,rfl⟩:=Option.map_eq_some_iff.mp ej;obtain⟨⟨dj,b1⟩,b2⟩:=R.man j mn p e1 fj;exact⟨⟨dj,nmt _ _ b1 (by simp)⟩,rfl,nmt _ _ (show H2 p.2=some (.dK []) from b2) (by simp)⟩
   generalize upd H2 mt (.dK kvs)=H3 at kpB hx3 hr3 man3 ⊢;walk_at "r";refine⟨x,_,dx,_,rfl,hx3,T.Z8Z,T.ZaW,(show 1 < 1000 by decide),?_⟩;walk_at "r";intro ba hba;walk_at "r";have xba:x≠ba:=Z6 Z1 hba;have ba3:H3 ba=none:=by rw[Z2 (Ne.symm xba)] at hba;exact hba
   have e4:upd (upd H3 x (.ins A.Z8v dx [("roster",.ref ro),("treaties",.ref ct)])) ba (.dT []) x=some (.ins A.Z8v dx [("roster",.ref ro),("treaties",.ref ct)]):=by rw[Z2 xba,Z1]
   refine⟨x,_,dx,_,rfl,e4,T.Z8Z,T.ZaV,(show 2 < 1000 by decide),?_⟩;walk_at "r";have kp5:∀ d o,H3 d=some o→d≠x→upd (upd (upd H3 x (.ins A.Z8v dx [("roster",.ref ro),("treaties",.ref ct)])) ba (.dT [])) x (.ins A.Z8v dx [("roster",.ref ro),("treaties",.ref ct),("balances",.ref ba)]) d=some o:=λd o e ne=>by
    rw[Z2 ne,Z2 (Z6 e ba3),Z2 ne];exact e
   refine k _ ps ⟨⟨dx,ro,ba,Z1,kp5 _ _ hr3 (Zi hr3 hx3 (by simp)),by rw[Z2 (Ne.symm xba),Z1],?_,λp hp=>(R.fresh p hp).2.2⟩,by rw[R.len,List.length_map,hl],λj m p ej fj=>?_,λd o e=>kp5 _ _ (kpB _ _ e) (Z6 e bx),λp hp=>⟨(R.fresh p hp).1,(R.fresh p hp).2.1⟩,R.nd1,R.nd2,?_⟩
   ·cases z:B ba with
    | none=>rfl
    | some o=>rw[kpB _ _ z] at ba3;cases ba3
   ·obtain⟨⟨dj,b1⟩,b2,b3⟩:=man3 j m p ej fj;refine⟨⟨dj,kp5 _ _ b1 (Ne.symm (Z1D b1 hx3 (by simp)))⟩,?_⟩;rw[b2];exact kp5 _ _ b3 (Zi b3 hx3 (by simp))
   ·rw[List.map_map];exact nd
end
noncomputable def Abc (z:Str):Prop:=∀ c∈z.cps.toList,c∈abc.cps.toList
theorem Abc.append {x y:Str}(h:Abc x)(g:Abc y):Abc (x++y):=λc hc=>by
 have e:(x++y).cps.toList=x.cps.toList++y.cps.toList:=by
  show (x.cps++y.cps).toList=_;simp
 rw[e] at hc
 rcases List.mem_append.mp hc with h1|h1
 ·exact h c h1
 ·exact g c h1
theorem Abc.empty:Abc "":=λc hc=>by
 have:c∈([]:List Nat):=hc;simp at this
theorem Abc.joinS:∀ (zs:List Str),(∀ z∈zs,Abc z)→Abc (Str.join "" zs)
 | [],_=>Abc.empty
 | [x],h=>h x (by simp)
 | x::y::r,h=>by
   have e:=Abc.joinS (y::r) λz hz=>h z (by simp at hz ⊢;exact .inr hz);show Abc (x++""++Str.join "" (y::r));exact ((h x (by simp)).append Abc.empty).append e
theorem Abc.join {zs:List Str}(h:∀ z∈zs,Abc z):Abc (Txt.join "" zs):=by
 show Abc (Builtin.Str.glued "" zs);rw[StrLaws.glued_eq_join];exact Abc.joinS zs h
theorem Abc.slice {z:Str}(h:Abc z)(l u:Option Int):Abc (Txt.slice z l u):=by
 unfold Txt.slice
 split
 ·exact h
 ·intro c hc;have hc':c∈(Builtin.Str.strSliceIndices l u 1 z.length).filterMap (z.cps[·]?):=by simpa using hc
  obtain⟨i,_,e⟩:=List.mem_filterMap.mp hc';refine h c ?_;have:=Array.mem_of_getElem? e
  simpa using this
theorem Abc.one {r:Int}{c:Nat}(h:atI abc.cps.toList r=some c):Abc ⟨#[c]⟩:=λd hd=>by
 have:d=c:=by simpa using hd
 rw[this];unfold atI at h;obtain⟨j,_,e⟩:=Option.bind_eq_some_iff.mp h;exact List.mem_of_getElem? e
theorem Z7U:∀ c∈abc.cps.toList,inT ⟨#[c]⟩ abc=true:=by decide +kernel
theorem Abc.good {z:Str}(h:Abc z)(h1:1≤z.length)(h8:z.length≤8):YY z=true:=by
 unfold YY;rw[decide_eq_true (by omega:(1:Int)≤(z.length:Int)),decide_eq_true (by omega:(z.length:Int)≤8)];unfold Z1T JC;rw[Bool.true_and,Bool.true_and,List.all_map,List.all_eq_true];exact λc hc=>Z7U c (h c hc)
theorem Z6d {z:Str}{r:Int}(h0:0≤r)(h1:r≤z.length):((Txt.slice z none (some r)).length:Int)≤r:=by
 unfold Txt.slice;have e:((Builtin.Str.strSliceIndices none (some r) 1 z.length).length:Int)≤r:=by
  unfold Builtin.Str.strSliceIndices sliceRange;simp only[show (1:Int) > 0 by decide,if_true,List.length_map,List.length_range]
  split<;>(try split)<;>(try split)<;>(try simp only[Int.ediv_one])<;>omega
 split
 ·rename_i h;have:(Builtin.Str.strSliceIndices none (some r) 1 z.length).length=z.length:=by simpa using h
  omega
 ·have e2:(List.filterMap (z.cps[·]?) (Builtin.Str.strSliceIndices none (some r) 1 z.length)).toArray.size≤(Builtin.Str.strSliceIndices none (some r) 1 z.length).length:=by
   rw[List.size_toArray];exact List.length_filterMap_le _ _
  have e3:((List.filterMap (z.cps[·]?) (Builtin.Str.strSliceIndices none (some r) 1 z.length)).toArray.size:Int)≤r:=by omega
  exact e3
theorem Z0N {z:Str}{r:Int}(h0:0≤r)(h1:r≤z.length):((Txt.slice z (some r) none).length:Int)≤z.length - r:=by
 unfold Txt.slice;have e:((Builtin.Str.strSliceIndices (some r) none 1 z.length).length:Int)≤z.length - r:=by
  unfold Builtin.Str.strSliceIndices sliceRange;simp only[show (1:Int) > 0 by decide,if_true,List.length_map,List.length_range]
  split<;>(try split)<;>(try split)<;>(try simp only[Int.ediv_one])<;>omega
 split
 ·rename_i h;have:(Builtin.Str.strSliceIndices (some r) none 1 z.length).length=z.length:=by simpa using h
  omega
 ·have e2:(List.filterMap (z.cps[·]?) (Builtin.Str.strSliceIndices (some r) none 1 z.length)).toArray.size≤(Builtin.Str.strSliceIndices (some r) none 1 z.length).length:=by
   rw[List.size_toArray];exact List.length_filterMap_le _ _
  have e3:((List.filterMap (z.cps[·]?) (Builtin.Str.strSliceIndices (some r) none 1 z.length)).toArray.size:Int)≤z.length - r:=by omega
  exact e3
noncomputable def Gd (z:Str):Prop:=Abc z∧1≤z.length∧z.length≤8
theorem Gd.good {z:Str}(h:Gd z):YY z=true:=h.1.good h.2.1 h.2.2
theorem BoxAt.ne_strs {H:Hp}{b l al:Addr}{ns:List Int}{zs:List Str}(h:BoxAt H b l ns)(e:H al=some (.lst (zs.map V.str))):al≠b:=by
 obtain⟨i,left,turn,seed,h1,_⟩:=h;refine Zi e h1 λq=>?_;injection q with q
 cases zs with
 | nil=>simp at q
 | cons z zs=>simp at q
noncomputable def Z7e:Sp:=λvs H Q _=>∃ (b l al:Addr) (ns:List Int) (zs:List Str),vs=[.ref b,.ref al]∧BoxAt H b l ns∧H al=some (.lst (zs.map V.str))∧(∀ z∈zs,Gd z)∧
 ∀ (z:Str) (H':Hp),Gd z→BoxAt H' b l ns→Keep b H H'→Q (.str z) H'
noncomputable def Z6T:Sp:=λvs H Q _=>∃ (b l:Addr) (ns:List Int) (m:Int),vs=[.ref b,.int m]∧BoxAt H b l ns∧1≤m∧m≤16∧
 ∀ (p:Addr) (zs:List Str) (H':Hp),H p=none→BoxAt H' b l ns→H' p=some (.lst (zs.map V.str))→(∀ z∈zs,Gd z)→zs.Nodup→zs≠[]→zs.length≤16→Keep b H H'→Q (.ref p) H'
section
variable {P:Program}{w:World}{K:W.Frag}{mg:Str→Option Value}{base:Heap}{A:Ad}
theorem Z5g (T:Txt K mg A):FnOk P w K mg base CX0 3 A.Zed A.Zdj ["_law_box_here","_law_alike"] Z7e:=by
 have Z8F:=@Jm P w K mg base A T;refine T.Zee.ok Z9C (λvs H Q E h=>?_) (λcdv A' outer s H vs Q E hr h=>?_)
 ·obtain⟨b,l,al,ns,zs,rfl,_⟩:=h;rfl
 ·obtain⟨b,l,al,ns,zs,rfl,hB,hal,ok,k⟩:=h;have nal:=hB.ne_strs hal;refine⟨_,(Z7 (Zq (i:=2) Z9C.nd rfl (Or.inr rfl) Zw)
   (Z7 (Zq (i:=3) Z9C.nd rfl (Or.inl rfl) (Zl Yl Z5 (Za Z8F (hr.mono (by decide)) rfl T.Z8L T.Z8H.kp T.Z8K .nil Z9 (Z0 (pv 0) (Z0 Z5 Z4)))))
   (Z7 (Zq (i:=4) Z9C.nd rfl (Or.inl rfl) (Jx PySem.F.plainAttrs_str PySem.F.slot_str_join PySem.F.type_str_join (Z7d (K:=K) rfl) Zw (Z0 (Z0y (N:=["_law_at","_law_letters","_law_box_here"]) (fr:=[none,some 2,some 0]) rfl (J3 (osc:=Z3 X6) (ON:=Z61) (by decide +kernel) rfl rfl) (XT rfl T.Zae (Z0 (pv 3) Z4)) (λ_ _ _ _=>(Zu (i:=0) (show List.Nodup (["_law_at","_law_letters","_law_box_here"]:List Str) by decide +kernel) rfl (Or.inl rfl))) (λ_ _ _ _=>(Zg Z2P (pv 1) (Za Z8F (hr.mono (by decide)) rfl T.Z8L T.Z8H.kp T.Z8K .nil Z9 (Z0 (pv 2) (Z0 Z5 Z4))) (λ_ _=>rfl)))) Z4)))
   (Z7 (Zr (PW.pt (Z40 (Zk Y9 (ZA (XV (K:=K) rfl) rfl T.Z9d PySem.boot_len (Z0 (pv 1) Z4)) Z5 (Zp _)) (Z1Y (Zk Y9 (Za Z8F (hr.mono (by decide)) rfl T.Z8L T.Z8H.kp T.Z8K .nil Z9 (Z0 (pv 0) (Z0 Z5 Z4))) Z5 (Zp _))))) (Z8 (Zj (pv 4))) Zm)
   (Z7 (Zq (i:=5) Z9C.nd rfl (Or.inl rfl) (Zg (ixL (K:=K) rfl) (pv 1) Z5 (λ_ _=>rfl)))
   (Z7 (Zq (i:=6) Z9C.nd rfl (Or.inl rfl) (Za Z8F (hr.mono (by decide)) rfl T.Z8L T.Z8H.kp T.Z8K .nil Z9 (Z0 (pv 0) (Z0 (ZA JL rfl T.Z9d PySem.boot_len (Z0 (pv 5) Z4)) Z4))))
   (Z8 (Zj (Zl Jn (Zl Jn (Z0m Z2t (pv 5) Z18 (Z1k (pv 6))) (Zg Z2P (pv 2) (Za Z8F (hr.mono (by decide)) rfl T.Z8L T.Z8H.kp T.Z8K .nil Z9 (Z0 (pv 0) (Z0 Z5 Z4))) (λ_ _=>rfl))) (Z0m Z2t (pv 5) (Z1k (Zl Yl (pv 6) Z5)) Z18)))))))))),?_⟩
  walk_at "r";refine⟨b,l,ns,8,rfl,hB,by decide,by decide,λr1 H1 h10 h11 B1 k1 _=>?_⟩;walk_at "r";refine⟨rfl,?_⟩;walk_at "r";refine⟨_,rfl,1 + r1,rfl,by omega,by omega,λD hD=>?_⟩;obtain⟨nD,nDl,BD⟩:=B1.new (o:=.lst []) hD;refine Z1Q (1 + r1).toNat (λi ys τ H2=>(∃ ws:List Str,ys=ws.map V.str∧ws.length=i∧(∀ x∈ws,x.length=1)∧∀ x∈ws,Abc x)∧H2 D=some (.lst ys)∧BoxAt H2 b l ns∧Keep b H1 H2∧∃ u,τ=[u,some (.str abc),some (.ref b)])
   ⟨⟨[],rfl,rfl,λx h=>by simp at h,λx h=>by simp at h⟩,Z1,BD,Keep.new hD,none,rfl⟩ (λi ys τ H2 _ q=>q.2.1) ?_ ?_
  ·rintro i ys τ H2 hi ⟨⟨ws,rfl,hw,h1,ha⟩,hDz,B2,k2,u,rfl⟩;refine⟨hi,ZB (by rw[List.length_map];omega),?_⟩;rintro x' H3 ⟨rfl,rfl⟩;walk_at "r";refine⟨b,l,ns,26,rfl,B2,by decide,by decide,λr2 H3 h20 h21 B3 k3 _=>?_⟩;obtain⟨c,hc⟩:=Z4U h20 h21;refine⟨abc,r2,c,rfl,rfl,small (by decide +kernel),hc,?_⟩;have hD3:=k3 _ _ hDz nD;refine⟨hD3,⟨ws++[⟨#[c]⟩],by rw[List.map_append];rfl,by simp[hw],λx hx=>?_,λx hx=>?_⟩,Z1,B3.put nD nDl,λd o e ne=>?_,_,rfl⟩
   ·rcases List.mem_append.mp hx with e|e
    ·exact h1 x e
    ·rw[List.mem_singleton.mp e];rfl
   ·rcases List.mem_append.mp hx with e|e
    ·exact ha x e
    ·rw[List.mem_singleton.mp e];exact Abc.one hc
   ·rw[Z2 (Z6 e hD)];exact k3 _ _ (k2 _ _ e ne) ne
  ·rintro ys τ H2 ⟨⟨ws,rfl,hw,h1,ha⟩,hDz,B2,k2,u,rfl⟩;refine⟨Nat.le_refl _,?_⟩;obtain⟨j1,j2⟩:=Z7D h1 (by omega);walk_at "r";refine⟨_,D,ws,rfl,rfl,SqL.of hDz,j1,?_⟩;have hl8:(Txt.join "" ws).cps.size≤8:=by
    have:(Txt.join "" ws).length=ws.length:=j2;show (Txt.join "" ws).length≤8;omega
   have hl1:1≤(Txt.join "" ws).cps.size:=by
    have:(Txt.join "" ws).length=ws.length:=j2;show 1≤(Txt.join "" ws).length;omega
   have hj:=Abc.join ha;generalize Txt.join "" ws=wd at hl8 hl1 hj;have gw:Gd wd:=⟨hj,hl1,hl8⟩;have k12:=k1.trans k2;walk_at "r";refine⟨al,_,rfl,.inl (SqL.of (k12 _ _ hal nal)),?_⟩;walk_at "r"
   by_cases h0:((zs.map V.str).length:Int)=0
   ·refine ZJ (decide_eq_true h0) ?_;walk_at "r";refine ZJ rfl ?_;walk_at "r";exact k wd H2 gw B2 k12
   ·refine Zo (λh=>h0 (of_decide_eq_true h)) ?_;have hne:zs≠[]:=λe=>h0 (by rw[e];rfl);walk_at "r";refine⟨b,l,ns,2,rfl,B2,by decide,by decide,λr3 H3 h30 h31 B3 k3 _=>?_⟩;walk_at "r";have K3:=k12.trans k3;refine Z0A (λc=>?_) (λc=>?_)
    ·walk_at "r";exact k wd H3 gw B3 K3
    ·walk_at "r";obtain⟨x,xs,rfl⟩:∃ x xs,zs=x::xs:=by
      cases zs with
      | nil=>exact absurd rfl hne
      | cons x xs=>exact⟨x,xs,rfl⟩
     obtain⟨hxa,hx1,hx8⟩:=ok x (by simp)
     change 1≤x.cps.size at hx1
     change x.cps.size≤8 at hx8
     refine Zn (SqL.of (K3 _ _ hal nal)) (v:=.str x) (Zx (j:=0) rfl) ?_;walk_at "r";refine⟨x,rfl,small (show x.cps.size≤1000 by omega),?_⟩;have hxl:((x.length:Nat):Int)=(x.cps.size:Int):=rfl;walk_at "r";refine⟨b,l,ns,_,rfl,B3,by omega,by omega,λr4 H4 h40 h41 B4 k4 _=>?_⟩;walk_at "r";refine⟨_,rfl,x,rfl,small (show x.cps.size≤1000 by omega),?_⟩;walk_at "r";refine⟨b,l,ns,26,rfl,B4,by decide,by decide,λr5 H5 h50 h51 B5 k5 _=>?_⟩;obtain⟨c5,hc5⟩:=Z4U h50 h51;refine⟨abc,r5,c5,rfl,rfl,small (by decide +kernel),hc5,?_⟩;have sx:x.length≤8:=hx8;have sx1:1≤x.length:=hx1;have s1:=Z6d (z:=x) (r:=r4) h40 (by omega);have s2:=Z0N (z:=x) (r:=r4 + 1) (by omega) (by omega);have se:(⟨#[c5]⟩:Str).length=1:=rfl;refine⟨_,_,rfl,rfl,small (by omega),?_⟩;walk_at "r";refine⟨_,rfl,x,rfl,small (show x.cps.size≤1000 by omega),?_⟩;refine⟨_,_,rfl,rfl,small (by rw[Str.length_append];omega),?_⟩;refine k _ H5 ⟨((hxa.slice _ _).append (Abc.one hc5)).append (hxa.slice _ _),?_,?_⟩ B5 (K3.trans (k4.trans k5))
     ·rw[Str.length_append,Str.length_append];omega
     ·rw[Str.length_append,Str.length_append];omega
theorem Z4R (T:Txt K mg A):FnOk P w K mg base CX0 4 A.Zeb A.Zdk ["_law_box_here","_law_many"] Z6T:=by
 have ZfX:=@Z5g P w K mg base A T;refine T.ZcW.ok ZbI (λvs H Q E h=>?_) (λcdv A' outer s H vs Q E hr h=>?_)
 ·obtain⟨b,l,ns,m,rfl,_⟩:=h;rfl
 ·obtain⟨b,l,ns,m,rfl,hB,hm1,hm2,k⟩:=h;refine⟨_,(Z7 (Zq (i:=2) ZbI.nd rfl (Or.inl rfl) (Y0 Z4))
   (Z7 (X1 PassesOwn.never rfl (XT rfl T.Zae (Z0 (pv 1) Z4)) (Zu (i:=3) ZbI.nd rfl (Or.inl rfl)) (Z7 (Zq (i:=4) ZbI.nd rfl (Or.inl rfl) (Za ZfX (hr.mono (by decide)) rfl T.ZeX T.Zee.kp T.ZeY .nil Z9 (Z0 (pv 0) (Z0 (pv 2) Z4))))
   (Z8 (Zr (Zk (Z0M (K:=K) rfl) (pv 4) (pv 2) (by with_unfolding_all rfl)) (Z8 (Zh (Jx PySem.F.plainAttrs_list PySem.F.slot_list_append PySem.F.type_list_append Ya (pv 2) (Z0 (pv 4) Z4)))) Zm))))
   (Z8 (Zj (pv 2))))),?_⟩
  walk_at "r";refine⟨by show 0≤sizeLine;decide,λp hp=>?_⟩;obtain⟨np,npl,B0⟩:=hB.new (o:=.lst []) hp;walk_at "r";refine⟨_,rfl,m,rfl,by omega,by omega,Z4J (n:=m.toNat) (λi σ H2=>∃ (zs:List Str) (u v:Option V),σ=[some (.ref b),some (.int m),some (.ref p),u,v]∧BoxAt H2 b l ns∧H2 p=some (.lst (zs.map V.str))∧((∀ z∈zs,Gd z)∧zs.Nodup)∧(1≤i→zs≠[])∧zs.length≤i∧Keep b H H2)
   ⟨[],none,none,rfl,B0,Z1,⟨λz h=>by simp at h,by simp⟩,λh=>by omega,Nat.le_refl _,Keep.new hp⟩ ?_ ?_⟩
  ·rintro i σ H2 hi ⟨zs,u,v,rfl,B2,hp2,ok2,ne2,hl2,k2⟩;walk_at "r";refine⟨b,l,p,ns,zs,rfl,B2,hp2,ok2.1,λz H3 hz B3 k3=>?_⟩;have hp3:=k3 _ _ hp2 np;walk_at "r";refine⟨p,_,rfl,.inl (SqL.of hp3),rfl,XR zs,?_⟩;rw[if_pos rfl,Jk];walk_at "r"
   by_cases hin:z∈zs
   ·refine Zo (by rw[decide_eq_true hin];simp) ?_;walk_at "r";exact⟨zs,_,_,rfl,B3,hp3,ok2,λ_ e=>(by rw[e] at hin;simp at hin),by omega,k2.trans k3⟩
   ·refine ZJ (by rw[decide_eq_false hin];rfl) ?_;walk_at "r";refine⟨.inl ⟨rfl,_,SqL.of hp3⟩,?_⟩;walk_at "r";refine XH hp3 (ZB (by rw[List.length_map];omega)) ?_;walk_at "r";refine⟨zs++[z],_,_,rfl,B3.put np npl,by rw[Z1,List.map_append];rfl,⟨λy hy=>?_,?_⟩,λ_ e=>by simp at e,by simp;omega,λd o e ne=>?_⟩
    ·rcases List.mem_append.mp hy with e|e
     ·exact ok2.1 y e
     ·rw[List.mem_singleton.mp e];exact hz
    ·exact List.nodup_append.mpr ⟨ok2.2,by simp,λa ha c hc e=>hin (by
      have:c=z:=by simpa using hc
      rw[←this,←e];exact ha)⟩
    ·rw[Z2 (Z6 e hp)];exact k3 _ _ (k2 _ _ e ne) ne
  ·rintro σ H2 ⟨zs,u,v,rfl,B2,hp2,ok2,ne2,hl2,k2⟩;walk_at "r";exact k p zs H2 hp B2 hp2 ok2.1 ok2.2 (ne2 (by omega)) (by omega) k2
end
noncomputable def Z7P:Sp:=λvs H Q _=>∃ (b l:Addr) (ns:List Int),vs=[.ref b]∧BoxAt H b l ns∧
 ∀ (t sL mL:Addr) (x y z:Str) (ss mn:List Str) (n:Int) (H':Hp),BoxAt H' b l ns→H' t=some (.tup [.ref sL,.ref mL,.int n])→H' sL=some (.lst ((x::y::ss).map V.str))→H' mL=some (.lst ((z::mn).map V.str))→Gd x→Gd y→Gd z→x≠y→Keep b H H'→Q (.ref t) H'
theorem two_at {zs:List Str}(h:2≤zs.length):∃ x y xs,zs=x::y::xs:=by
 match zs,h with
 | x::y::xs,_=>exact⟨x,y,xs,rfl⟩
theorem Z2D {x v tl:Str}{c d:Nat}(h1:x.cps.toList[0]? = some c)(h2:v=⟨#[d]⟩)(n:c≠d):x≠v++tl:=λe=>by
 rw[e,h2] at h1;have e2:((⟨#[d]⟩:Str)++tl).cps.toList=d::tl.cps.toList:=by
  show (#[d]++tl.cps).toList=_;simp
 rw[e2] at h1;exact n (Option.some.inj h1).symm
theorem Abc.ab (i:Nat)(h:i < 26):Abc ⟨#[97 + i]⟩:=λd hd=>by
 have:d=97 + i:=by simpa using hd
 rw[this];have:∀ j:Fin 26,97 + j.val∈abc.cps.toList:=by decide +kernel
 exact this ⟨i,h⟩
theorem Z1e {zs:List Str}(h:zs≠[]):∃ x xs,zs=x::xs:=by
 cases zs with
 | nil=>exact absurd rfl h
 | cons x xs=>exact⟨x,xs,rfl⟩
section
variable {P:Program}{w:World}{K:W.Frag}{mg:Str→Option Value}{base:Heap}{A:Ad}
theorem Z63 (T:Txt K mg A):FnOk P w K mg base CX0 5 A.ZeE A.Zej ["_law_box_here"] Z7P:=by
 have Z8F:=@Jm P w K mg base A T;have Zfd:=@Z4R P w K mg base A T;refine T.ZeM.ok Zea (λvs H Q E h=>?_) (λcdv A' outer s H vs Q E hr h=>?_)
 ·obtain⟨b,l,ns,rfl,_⟩:=h;rfl
 ·obtain⟨b,l,ns,rfl,hB,k⟩:=h;refine⟨_,(Z7 (Zq (i:=1) Zea.nd rfl (Or.inl rfl) (Za Zfd (hr.mono (by decide)) rfl T.Zec T.ZcW.kp T.Zei .nil Z9 (Z0 (pv 0) (Z0 (Zg (ixL (K:=K) rfl) (Y0 (Z0 Z5 (Z0 Z5 (Z0 Z5 (Z0 Z5 (Z0 Z5 (Z0 Z5 Z4))))))) (Za Z8F (hr.mono (by decide)) rfl T.Z8L T.Z8H.kp T.Z8K .nil Z9 (Z0 (pv 0) (Z0 Z5 Z4))) (λ_ _=>rfl)) Z4))))
   (Z7 (Zr (Zk Z4j (ZA (XV (K:=K) rfl) rfl T.Z9d PySem.boot_len (Z0 (pv 1) Z4)) Z5 (Zp _)) (Z8 (Zh (Jx PySem.F.plainAttrs_list PySem.F.slot_list_append PySem.F.type_list_append Ya (pv 1) (Z0 (Zl Jn (Zg (ixL (K:=K) rfl) (Y0 (Z0 Zw (Z0 Zw Z4))) (XU Z4B rfl T.Zg3 L2.boot_int (Z0 (Z02 Y9 (Zg Z2P (Zg (ixL (K:=K) rfl) (pv 1) Z5 (λ_ _=>rfl)) Z5 (λ_ _=>rfl)) Zw (Zp _)) Z4)) (λ_ _=>rfl)) (Z0m Z2t (Zg (ixL (K:=K) rfl) (pv 1) Z5 (λ_ _=>rfl)) (Z1k Z5) Z18)) Z4)))) Zm)
   (Z7 (Zq (i:=2) Zea.nd rfl (Or.inl rfl) (Za Zfd (hr.mono (by decide)) rfl T.Zec T.ZcW.kp T.Zei .nil Z9 (Z0 (pv 0) (Z0 (Zg (ixL (K:=K) rfl) (Y0 (Z0 Z5 (Z0 Z5 (Z0 Z5 (Z0 Z5 (Z0 Z5 (Z0 Z5 (Z0 Z5 (Z0 Z5 Z4))))))))) (Za Z8F (hr.mono (by decide)) rfl T.Z8L T.Z8H.kp T.Z8K .nil Z9 (Z0 (pv 0) (Z0 Z5 Z4))) (λ_ _=>rfl)) Z4))))
   (Z7 (Zr (PW.pt (J9 (Zk Y9 (Za Z8F (hr.mono (by decide)) rfl T.Z8L T.Z8H.kp T.Z8K .nil Z9 (Z0 (pv 0) (Z0 Z5 Z4))) Z5 (Zp _)) (Jh (Zk (Z0M (K:=K) rfl) (Zg (ixL (K:=K) rfl) (pv 1) Z5 (λ_ _=>rfl)) (pv 2) (by with_unfolding_all rfl))))) (Z8 (JM (Zg (ixL (K:=K) rfl) (pv 1) Z5 (λ_ _=>rfl)) (JS (pv 2) Z5 XD))) Zm)
   (Z8 (Zj (YN (Z0 (pv 1) (Z0 (pv 2) (Z0 (Zg (ixL (K:=K) rfl) (Y0 (Z0 Z5 (Z0 (Zl Z5b (Zl XC Z5 Z5) Z5) (Z0 (Zl Jd (Za Z8F (hr.mono (by decide)) rfl T.Z8L T.Z8H.kp T.Z8K .nil Z9 (Z0 (pv 0) (Z0 Z5 Z4))) Z5) (Z0 (Za Z8F (hr.mono (by decide)) rfl T.Z8L T.Z8H.kp T.Z8K .nil Z9 (Z0 (pv 0) (Z0 Z5 Z4))) Z4))))) (Za Z8F (hr.mono (by decide)) rfl T.Z8L T.Z8H.kp T.Z8K .nil Z9 (Z0 (pv 0) (Z0 Z5 Z4))) (λ_ _=>rfl)) Z4)))))))))),?_⟩
  walk_at "r";refine⟨by show 6≤sizeLine;decide,λq1 hq1=>?_⟩;obtain⟨n1,n1l,B1⟩:=hB.new (o:=.lst [.int 2,.int 2,.int 3,.int 4,.int 3,.int 6]) hq1;walk_at "r";refine⟨b,l,ns,6,rfl,B1,by decide,by decide,λr2 H2 h20 h21 B2 k2 _=>?_⟩;obtain⟨v,hv,ev⟩:=Z5T [2,2,3,4,3,6] h20 (by simpa using h21);have hv':1≤v∧v≤16:=by
   simp only[List.mem_cons,List.mem_nil_iff,or_false] at hv;omega
  refine Zn (SqL.of (k2 _ _ Z1 n1)) ev ?_;walk_at "r";refine⟨b,l,ns,v,rfl,B2,hv'.1,hv'.2,λsL ss H3 hsL B3 hs3 ok3 nd3 ne3 len3 k3=>?_⟩;have K3:Keep b H H3:=(Keep.new hq1).trans (k2.trans k3);walk_at "rd1";refine XB (λσ' H'=>∃ ss':List Str,σ'=[some (.ref b),some (.ref sL),none]∧BoxAt H' b l ns∧H' sL=some (.lst (ss'.map V.str))∧(∀ z∈ss',Gd z)∧ss'.Nodup∧2≤ss'.length∧Keep b H H') (λσ4 H4 m4=>?_) (λnx hn=>?_)
  rotate_left
  ·have nsb:=B3.ne_strs hs3;walk_at "r";refine⟨sL,_,rfl,.inl (SqL.of hs3),?_⟩;walk_at "r";refine Z0A (λc=>?_) (λc=>?_)
   ·obtain⟨x,xs,rfl⟩:=Z1e ne3;obtain rfl:xs=[]:=by
     cases xs with
     | nil=>rfl
     | cons _ _=>simp at c;omega
    obtain⟨hxa,hx1,hx8⟩:=ok3 x (by simp)
    change 1≤x.cps.size at hx1
    change x.cps.size≤8 at hx8
    walk_at "r";refine⟨.inl ⟨rfl,_,SqL.of hs3⟩,?_⟩;walk_at "r";refine⟨by show 2≤sizeLine;decide,λq hq=>?_⟩;obtain⟨nq,nql,B4⟩:=B3.new (o:=.lst [.str "a",.str "b"]) hq;have sq:=Same.new hq (HO.lst [.str "a",.str "b"]);have hs4:=sq _ _ hs3;walk_at "r";refine Zn (SqL.of hs4) (v:=.str x) (Zx (j:=0) rfl) ?_;walk_at "r";have hx0:x.cps.toList[0]? = some (x.cps.toList[0]'(by rw[Array.length_toList];omega)):=List.getElem?_eq_getElem _;refine⟨x,0,_,rfl,rfl,small (show x.cps.size≤1000 by omega),Zx (j:=0) hx0,?_⟩;walk_at "r";refine⟨rfl,?_⟩;walk_at "r";have fin:∀ v:Str,v.length=1→Abc v→x≠v++Txt.slice x (some 1) none→nx [some (.ref b),some (.ref sL),none] (upd (upd H3 q (.lst [.str "a",.str "b"])) sL (.lst ([x].map V.str++[.str (v++Txt.slice x (some 1) none)]))):=λv hv hva hne=>by
     have hx8':x.length≤8:=hx8;have hx1':1≤x.length:=hx1;have ht:=Z0N (z:=x) (r:=1) (by omega) (by omega);refine hn _ _ ⟨[x]++[v++Txt.slice x (some 1) none],rfl,?_,by rw[Z1,List.map_append];rfl,λz hz=>?_,?_,by simp,λd o e ne=>?_⟩
     ·refine B4.put nsb ?_;obtain⟨i',left,turn,seed,a1,a2,a3⟩:=B4;refine Zi hs4 a2 λe=>?_;injection e with e
      cases ns with
      | nil=>simp at e
      | cons n ns=>simp at e
     ·rcases List.mem_append.mp hz with e|e
      ·exact ok3 z e
      ·rw[List.mem_singleton.mp e];exact⟨hva.append (hxa.slice _ _),by rw[Str.length_append];omega,by rw[Str.length_append];omega⟩
     ·simpa using hne
     ·rw[Z2 (Z6 e (((Keep.new hq1).trans k2).free hsL nsb))];exact sq _ _ (K3 _ _ e ne)
    have ht:=Txt.slice_le x (some 1) none;have hx8':x.length≤8:=hx8;generalize ec:x.cps.toList[0]'(by rw[Array.length_toList];omega)=c0 at hx0 ⊢
    by_cases ea:c0=97
    ·have:(decide (V.str ⟨#[c0]⟩=V.str "a"))=true:=by rw[ea];decide +kernel
     rw[this];refine .inr ⟨_,rfl,?_⟩;refine Zn (xs:=[.str "a",.str "b"]) (SqL.of Z1) (v:=.str "b") (by rfl) ?_;walk_at "r";refine Zn (SqL.of hs4) (v:=.str x) (Zx (j:=0) rfl) ?_;refine⟨_,rfl,?_⟩;walk_at "r";refine⟨x,rfl,small (show x.cps.size≤1000 by omega),?_⟩;refine⟨_,_,rfl,rfl,small (show 1 + (Txt.slice x (some 1) none).length≤1000 by omega),?_⟩;walk_at "r";refine XH hs4 (ZB (by rw[List.length_map];omega)) ?_;exact fin "b" (by decide +kernel) (Abc.ab 1 (by decide)) (Z2D hx0 (d:=98) (by decide +kernel) (by omega))
    ·have:(decide (V.str ⟨#[c0]⟩=V.str "a"))=false:=decide_eq_false λz=>ea (by
      injection z with z
      have z2:(⟨#[c0]⟩:Str)=⟨#[97]⟩:=z;injection z2 with z2
      simpa using z2)
     rw[this];refine .inr ⟨_,rfl,?_⟩;refine Zn (xs:=[.str "a",.str "b"]) (SqL.of Z1) (v:=.str "a") (by rfl) ?_;walk_at "r";refine Zn (SqL.of hs4) (v:=.str x) (Zx (j:=0) rfl) ?_;refine⟨_,rfl,?_⟩;walk_at "r";refine⟨x,rfl,small (show x.cps.size≤1000 by omega),?_⟩;refine⟨_,_,rfl,rfl,small (show 1 + (Txt.slice x (some 1) none).length≤1000 by omega),?_⟩;walk_at "r";refine XH hs4 (ZB (by rw[List.length_map];omega)) ?_;exact fin "a" (by decide +kernel) (Abc.ab 0 (by decide)) (Z2D hx0 (d:=97) (by decide +kernel) ea)
   ·walk_at "r";exact hn _ _ ⟨ss,rfl,B3,hs3,ok3,nd3,by simp at c;omega,K3⟩
  ·obtain⟨ss',rfl,B4,hs4,ok4,nd4,len4,K4⟩:=m4;have nsb:=B4.ne_strs hs4;walk_at "r";refine⟨by show 8≤sizeLine;decide,λq5 hq5=>?_⟩;obtain⟨n5,n5l,B5⟩:=B4.new (o:=.lst [.int 3,.int 4,.int 5,.int 6,.int 8,.int 5,.int 4,.int 16]) hq5;have s5:=Same.new hq5 (HO.lst [.int 3,.int 4,.int 5,.int 6,.int 8,.int 5,.int 4,.int 16]);walk_at "r";refine⟨b,l,ns,8,rfl,B5,by decide,by decide,λr6 H6 h60 h61 B6 k6 _=>?_⟩;obtain⟨v6,hv6,ev6⟩:=Z5T [3,4,5,6,8,5,4,16] h60 (by simpa using h61);have hv6':1≤v6∧v6≤16:=by
    simp only[List.mem_cons,List.mem_nil_iff,or_false] at hv6;omega
   refine Zn (SqL.of (k6 _ _ Z1 n5)) ev6 ?_;walk_at "r";have hs6:=k6 _ _ (s5 _ _ hs4) nsb;refine⟨b,l,ns,v6,rfl,B6,hv6'.1,hv6'.2,λmL mn H7 hmL B7 hm7 ok7 nd7 ne7 len7 k7=>?_⟩;have hs7:=k7 _ _ hs6 nsb;have nmb:=B7.ne_strs hm7;have nms:sL≠mL:=Z6 hs6 hmL;have K7:Keep b H H7:=K4.trans ((Keep.new hq5).trans (k6.trans k7));obtain⟨x,x2,xs,rfl⟩:=two_at len4;obtain⟨y,ys,rfl⟩:=Z1e ne7;walk_at "rd1";refine XB (λσ' H'=>∃ mn':List Str,σ'=[some (.ref b),some (.ref sL),some (.ref mL)]∧BoxAt H' b l ns∧H' sL=some (.lst ((x::x2::xs).map V.str))∧H' mL=some (.lst (mn'.map V.str))∧(∀ z∈mn',Gd z)∧mn'≠[]∧Keep b H H') (λσ8 H8 m8=>?_) (λnx hn=>?_)
   rotate_left
   ·walk_at "r";refine⟨b,l,ns,6,rfl,B7,by decide,by decide,λr8 H8 h80 h81 B8 k8 _=>?_⟩;have hs8:=k8 _ _ hs7 nsb;have hm8:=k8 _ _ hm7 nmb;have K8:=K7.trans k8;walk_at "r";refine Z0A (λc=>?_) (λc=>?_)
    ·walk_at "r";refine Zn (SqL.of hs8) (v:=.str x) (Zx (j:=0) rfl) ?_;walk_at "r";refine⟨mL,_,rfl,.inl (SqL.of hm8),rfl,XR _,?_⟩;rw[if_pos rfl,Jk];walk_at "r";refine Z0A (λc2=>?_) (λc2=>?_)
     ·walk_at "r";refine Zn (SqL.of hs8) (v:=.str x) (Zx (j:=0) rfl) ?_;walk_at "r";refine J7 (jn:=0) hm8 (by unfold ixN;rw[if_pos (by omega),if_pos (by simp)];rfl) ?_;refine hn _ _ ⟨x::ys,rfl,?_,by rw[Z2 nms];exact hs8,by rw[Z1];rfl,λz hz=>?_,by simp,λd o e ne=>?_⟩
      ·refine B8.put nmb ?_;obtain⟨i',left,turn,seed,a1,a2,a3⟩:=B8;refine Zi hm8 a2 λe=>?_;injection e with e
       cases ns with
       | nil=>simp at e
       | cons n ns=>simp at e
      ·rcases List.mem_cons.mp hz with rfl|hz
       ·exact ok4 _ (by simp)
       ·exact ok7 z (by simp[hz])
      ·have e6:H6 d=some o:=k6 _ _ (s5 _ _ (K4 _ _ e ne)) ne;rw[Z2 (Z6 e6 hmL)];exact K8 _ _ e ne
     ·walk_at "r";exact hn _ _ ⟨y::ys,rfl,B8,hs8,hm8,ok7,by simp,K8⟩
    ·walk_at "r";refine Zo Bool.false_ne_true ?_;walk_at "r";exact hn _ _ ⟨y::ys,rfl,B8,hs8,hm8,ok7,by simp,K8⟩
   ·obtain⟨mn',rfl,B8,hs8,hm8,ok8,ne8,K8⟩:=m8;obtain⟨z0,zs0,rfl⟩:=Z1e ne8;have nmb8:=B8.ne_strs hm8;walk_at "r";refine⟨b,l,ns,900,rfl,B8,by decide,by decide,λr9 H9 h90 h91 B9 k9 _=>?_⟩;walk_at "r";refine⟨b,l,ns,90,rfl,B9,by decide,by decide,λra Ha ha0 ha1 Ba ka _=>?_⟩;walk_at "r";refine⟨by show 4≤sizeLine;decide,λqb hqb=>?_⟩;obtain⟨nb,nbl,Bb⟩:=Ba.new (o:=.lst [.int 0,.int (10 ^ (6:Int).toNat - 99),.int (r9 * 1000),.int ra]) hqb;have sb:=Same.new hqb (HO.lst [.int 0,.int (10 ^ (6:Int).toNat - 99),.int (r9 * 1000),.int ra]);walk_at "r";refine⟨b,l,ns,4,rfl,Bb,by decide,by decide,λrc Hc hc0 hc1 Bc kc _=>?_⟩;obtain⟨vc,hvc,evc⟩:=Z5T [0,10 ^ (6:Int).toNat - 99,r9 * 1000,ra] hc0 (by simpa using hc1);refine Zn (SqL.of (kc _ _ Z1 nb)) evc ?_;walk_at "r";refine⟨by show 3≤sizeLine;decide,λt ht=>?_⟩;obtain⟨nt,ntl,Bt⟩:=Bc.new (o:=.tup [.ref sL,.ref mL,.int vc]) ht;have st:=Same.new ht (HO.tup [.ref sL,.ref mL,.int vc]);have Kc:Keep b H8 Hc:=k9.trans (ka.trans ((Keep.new hqb).trans kc));exact k t sL mL x x2 z0 xs zs0 vc _ Bt Z1 (st _ _ (Kc _ _ hs8 nsb)) (st _ _ (Kc _ _ hm8 nmb8)) (ok4 _ (by simp)) (ok4 _ (by simp)) (ok8 _ (by simp)) (λe=>by rw[e] at nd4;simp at nd4) (K8.trans (Kc.trans (Keep.new ht)))
end
noncomputable def Z4m:Sp:=λvs H Q _=>∃ z t:Str,vs=[.str z,.str t]∧z.cps.size≤1000∧∀ H',Same H H'→Q (.bl (Z1T z t)) H'
noncomputable def Z3E:Sp:=λvs H Q _=>∃ z:Str,vs=[.str z]∧z.cps.size≤1000∧∀ H',Same H H'→Q (.bl (YY z)) H'
noncomputable def Z8n (K:W.Frag)(H:Hp)(p:Addr)(z:Str)(b:Bool):Prop:=(∃ zs:List Str,SqL K H p (zs.map V.str)∧b=decide (z∈zs))∨∃ o,DGet H p (.str z) o∧b=o.isSome
noncomputable abbrev Z0R (sn mt:Addr)(ct dl:V)(n:Int):List (Str×V):=[("side_names",.ref sn),("man_table",.ref mt),("cartel_table",ct),("deed_list",dl),("next_number",.int n)]
noncomputable def Z3R (A:Ad):Sp:=λvs H Q _=>∃ (x dx sn mt:Addr) (ct dl:V) (n:Int),vs=[.ref x,.ref sn,.ref mt,ct,dl,.int n]∧H x=some (.ins A.Z8z dx [])∧Q .non (upd H x (.ins A.Z8z dx (Z0R sn mt ct dl n)))
structure Pg where
 sides:List Str
 men:List Mn
 deeds:List (Int×Int×Deed)
 next:Int
noncomputable def DlAt (H:Hp)(dl:Addr)(ds:List (Int×Int×Deed)):Prop:=∃ es:List Addr,H dl=some (.lst (es.map V.ref))∧es.length=ds.length∧∀ (i:Nat) (d:Int×Int×Deed),ds[i]? = some d→∃ e dd,es[i]? = some e∧H e=some (.tup [.int d.1,.int d.2.1,.ref dd])∧DeedAt H dd d.2.2
structure PgAt (A:Ad)(H:Hp)(pg sn dl:Addr)(g:Pg):Prop where
 at':∃ dp mt ct kvs,H pg=some (.ins A.Z8z dp (Z0R sn mt (.ref ct) (.ref dl) g.next))∧H mt=some (.dK kvs)∧Men H kvs g.men∧H ct=some (.dT [])
 hs:H sn=some (.lst (g.sides.map V.str))
 hd:DlAt H dl g.deeds
theorem DlAt.same {H H':Hp}{dl:Addr}{ds:List (Int×Int×Deed)}(h:DlAt H dl ds)(s:Same H H'):DlAt H' dl ds:=by
 obtain⟨es,a,b,c⟩:=h;exact⟨es,s _ _ a,b,λi d e=>let ⟨x,dd,p,q,r⟩:=c i d e;⟨x,dd,p,s _ _ q,r.same s⟩⟩
theorem PgAt.same {A:Ad}{H H':Hp}{pg sn dl:Addr}{g:Pg}(h:PgAt A H pg sn dl g)(s:Same H H'):PgAt A H' pg sn dl g:=by
 obtain⟨dp,mt,ct,kvs,a,b,c,d⟩:=h.at';exact⟨⟨dp,mt,ct,kvs,s _ _ a,s _ _ b,c.same λp xs e=>s _ _ e,s _ _ d⟩,s _ _ h.hs,h.hd.same s⟩
noncomputable def Z4P (K:W.Frag):Sp:=λvs H Q _=>∃ (z:Str) (p:Addr),vs=[.str z,.ref p]∧z.cps.size≤1000∧(∀ H',Same H H'→Z8n K H' p z false)∧YY z=true∧∀ H',Same H H'→Q .non H'
noncomputable def Z3N:Sp:=λvs H Q _=>∃ r:Int,vs=[.int r]∧(0≤r∧r < 6)∧Q .non H
noncomputable def Z4T:Sp:=λvs H Q _=>∃ d:Int,vs=[.int d]∧(0≤d∧d≤1000000)∧Q .non H
noncomputable def Z3I:Sp:=λvs H Q _=>∃ n m:Int,vs=[.int n,.int m]∧n < m∧Q .non H
noncomputable def Z3G (A:Ad):Sp:=λvs H Q _=>∃ (pg sn dl:Addr) (g:Pg) (y:Str),vs=[.ref pg,.str y]∧PgAt A H pg sn dl g∧y∈g.sides∧Q .non H
noncomputable def Z5a (A:Ad):Sp:=λvs H Q _=>∃ (pg sn dl:Addr) (g:Pg) (y:Str),vs=[.ref pg,.str y]∧PgAt A H pg sn dl g∧y∈g.men.map (·.1)∧Q .non H
noncomputable def Z43 (A:Ad):Sp:=λvs H Q _=>∃ (pg sn dl:Addr) (g:Pg) (n:Int),vs=[.ref pg,.int n]∧PgAt A H pg sn dl g∧g.deeds.length≤900∧n∈g.deeds.map (·.1)∧∀ H',Same H H'→Q .non H'
theorem Z56 (zs:List Int):(zs.map V.int).all Xn=true:=by
 rw[List.all_map,List.all_eq_true];intro x _;rfl
theorem Z5J (z:Int)(zs:List Int):inV (.int z) (zs.map V.int)=decide (z∈zs):=by
 unfold inV;rw[List.any_map,Bool.eq_iff_iff,List.any_eq_true,decide_eq_true_iff];constructor
 ·rintro⟨y,hy,e⟩;have:y=z:=by simpa [eqV] using e
  rw[←this];exact hy
 ·intro h;exact⟨z,h,by simp[eqV]⟩
noncomputable def okN (g:Pg):Deed→Prop
 | .take m s=>m∈g.men.map (·.1)∧s∈g.sides
 | .word m=>m∈g.men.map (·.1)
 | .flee m=>m∈g.men.map (·.1)
noncomputable def Z38 (A:Ad):Sp:=λvs H Q _=>∃ (pg sn dl dd:Addr) (g:Pg) (d:Deed),vs=[.ref pg,.ref dd]∧PgAt A H pg sn dl g∧DeedAt H dd d∧okN g d∧Q .non H
section
variable {P:Program}{w:World}{K:W.Frag}{mg:Str→Option Value}{base:Heap}{A:Ad}
theorem Z26 (T:Txt K mg A):FnOk P w K mg base CX0 1 A.ZbS A.Zbj ["text","signs"] Z4m:=by
 refine T.ZbV.ok Z29 (λvs H Q E h=>?_) (λcdv A' outer s H vs Q E hr h=>?_)
 ·obtain⟨z,t,rfl,_⟩:=h;rfl
 ·obtain⟨z,t,rfl,hz,k⟩:=h;refine⟨_,(Z8 (Zj (ZA (Z8l (K:=K) rfl rfl) rfl T.Zg2 L2.boot_all (Z0 (Z0y (N:=["sign","signs"]) (fr:=[none,some 1]) rfl (J3 (osc:=Z3 Yc) (ON:=Z3d) (by decide +kernel) rfl rfl) (piS (pv 0)) (λ_ _ _ _=>(Zu (i:=0) (show List.Nodup (["sign","signs"]:List Str) by decide +kernel) rfl (Or.inl rfl))) (λ_ _ _ _=>(Z02 Z4L (pv 0) (pv 1) (by with_unfolding_all rfl)))) Z4)))),?_⟩;walk_at "r";refine⟨_,rfl,z,rfl,λD hD=>?_⟩;refine Z1Q z.cps.size (λi bs τ H2=>Same H H2∧H2 D=some (.lst bs)∧bs=(((JC z).take i).map λc=>inT c t).map V.bl∧∃ u,τ=[u,some (.str t)]) ⟨Same.new hD _,Z1,rfl,none,rfl⟩ (λi bs τ H2 _ q=>q.2.1) ?_ ?_
  ·rintro i bs τ H2 hi ⟨sm,hDz,rfl,u,rfl⟩;refine⟨hi,ZB (by rw[List.length_map,List.length_map,List.length_take];omega),?_⟩;rintro x' H3 ⟨rfl,c,hc,rfl⟩;walk_at "r";refine⟨_,_,rfl,rfl,?_⟩;refine⟨hDz,XN sm hD,Z1,?_,_,rfl⟩;rw[Z4E (Z6c hc),List.map_append,List.map_append];rfl
  ·rintro bs τ H2 ⟨sm,hDz,rfl,u,rfl⟩;refine⟨Nat.le_refl _,?_⟩;walk_at "r";refine⟨D,_,rfl,SqL.of hDz,?_⟩;have e:((((JC z).take z.cps.size).map λc=>inT c t).all id)=Z1T z t:=by
    rw[List.take_of_length_le (by rw[Z6e];exact Nat.le_refl _),List.all_map];rfl
   rw[e];exact k H2 sm
theorem Z25 (T:Txt K mg A):FnOk P w K mg base CX0 2 A.ZbU A.Zbr ["text"] Z3E:=by
 have Zfg:=@Z26 P w K mg base A T;refine T.ZbN.ok Z2l (λvs H Q E h=>?_) (λcdv A' outer s H vs Q E hr h=>?_)
 ·obtain⟨z,rfl,_⟩:=h;rfl
 ·obtain⟨z,rfl,hz,k⟩:=h;refine⟨_,(Z8 (Zj (Z4q (Z5Q JZ JZ Z5 (ZA JL rfl T.Z9d PySem.boot_len (Z0 (pv 0) Z4)) (YL (i:=8) rfl T.ZcB)) (Z5o (Za Zfg (hr.mono (by decide)) rfl T.Ze0 T.ZbV.kp T.ZdY .nil Z9 (Z0 (pv 0) (Z0 (Z4K (z:="abcdefghijklmnopqrstuvwxyz") rfl T.ZeP) Z4))))))),?_⟩;walk_at "r";refine⟨z,rfl,small hz,?_⟩;walk_at "r";have fin:∀ b:Bool,b=YY z→∀ H',Same H H'→Q (.bl b) H':=λb e H' s'=>by rw[e];exact k H' s'
  by_cases h1:(1:Int)≤(z.length:Int)
  ·refine ZJ (decide_eq_true h1) ?_;walk_at "r"
   by_cases h2:(z.length:Int)≤8
   ·refine ZJ (decide_eq_true h2) ?_;walk_at "r";refine⟨z,_,rfl,hz,λH' s'=>?_⟩;refine fin _ ?_ H' s';unfold YY;rw[decide_eq_true h1,decide_eq_true h2];rfl
   ·refine Zo (λh=>h2 (of_decide_eq_true h)) ?_;refine fin _ ?_ H (Same.refl H);unfold YY;rw[decide_eq_false h2,Bool.and_false];rfl
  ·refine Zo (λh=>h1 (of_decide_eq_true h)) ?_;walk_at "r";refine Zo Bool.false_ne_true ?_;refine fin _ ?_ H (Same.refl H);unfold YY;rw[decide_eq_false h1];rfl
theorem Z24 (T:Txt K mg A):FnOk P w K mg base CX0 1 A.Zc4 A.Zbk ["rank"] Z3N:=by
 refine T.Zce.ok Z2V (λvs H Q E h=>?_) (λcdv A' outer s H vs Q E hr h=>?_)
 ·obtain⟨r,rfl,_⟩:=h;rfl
 ·obtain⟨r,rfl,⟨h1,h2⟩,k⟩:=h;refine⟨_,(Z8 (Zr (Xd (Z1Z JZ Z4j Z5 (pv 0) (YL (i:=6) rfl T.Zdi))) (Z8 ZG) Zm)),?_⟩;walk_at "r";refine ZJ (decide_eq_true h1) ?_;walk_at "r";refine Zo (by rw[decide_eq_true h2];simp) ?_;walk_at "r";exact k
theorem Z08 (T:Txt K mg A):FnOk P w K mg base CX0 1 A.ZcL A.ZbZ ["day"] Z4T:=by
 refine T.ZaX.ok Z3c (λvs H Q E h=>?_) (λcdv A' outer s H vs Q E hr h=>?_)
 ·obtain⟨d,rfl,_⟩:=h;rfl
 ·obtain⟨d,rfl,⟨h1,h2⟩,k⟩:=h;refine⟨_,(Z8 (Zr (Xd (Z1Z JZ JZ Z5 (pv 0) (YL (i:=1000000) rfl T.Zep))) (Z8 ZG) Zm)),?_⟩;walk_at "r";refine ZJ (decide_eq_true h1) ?_;walk_at "r";refine Zo (by rw[decide_eq_true h2];simp) ?_;walk_at "r";exact k
theorem XE (T:Txt K mg A):FnOk P w K mg base CX0 1 A.ZbY A.Zb5 ["many","most"] Z3I:=by
 refine T.Z9p.ok Z2T (λvs H Q E h=>?_) (λcdv A' outer s H vs Q E hr h=>?_)
 ·obtain⟨n,m,rfl,_⟩:=h;rfl
 ·obtain⟨n,m,rfl,hlt,k⟩:=h;refine⟨_,(Z8 (Zr (Zk Z6z (pv 0) (pv 1) (Zp _)) (Z8 ZG) Zm)),?_⟩;walk_at "r";refine Zo (λh=>by have:=of_decide_eq_true h;omega) ?_;walk_at "r";exact k
theorem XJ (T:Txt K mg A):FnOk P w K mg base CX0 3 A.Za1 A.Z9B ["name","table"] (Z4P K):=by
 have Zfh:=@Z25 P w K mg base A T;refine T.Z9c.ok Z0e (λvs H Q E h=>?_) (λcdv A' outer s H vs Q E hr h=>?_)
 ·obtain⟨z,p,rfl,_⟩:=h;rfl
 ·obtain⟨z,p,rfl,hz,hin,g,k⟩:=h;have hu1:=Xq hr;refine⟨_,(Z7 (Zr (Xd (Xb (Za Zfh (hr.mono (by decide)) rfl T.Ze2 T.ZbN.kp T.ZdX .nil Z9 (Z0 (pv 0) Z4)))) (Z8 ZG) Zm)
   (Z8 (Zr (Zk (Z7g (K:=K) rfl hu1) (pv 0) (pv 1) (by with_unfolding_all rfl)) (Z8 ZG) Zm))),?_⟩
  walk_at "r";refine⟨z,rfl,hz,λH1 s1=>?_⟩;rw[g];walk_at "r";refine Zo Bool.false_ne_true ?_;walk_at "r"
  rcases hin H1 s1 with⟨zs,hl,e⟩|⟨o,hd,e⟩
  ·refine .inl ⟨p,_,rfl,.inl hl,rfl,XR zs,?_⟩;rw[if_neg Bool.false_ne_true,Jk,←e];walk_at "r";refine Zo Bool.false_ne_true ?_;exact k H1 s1
  ·refine .inr ⟨p,o,rfl,hd,?_⟩;rw[←e];walk_at "r";refine Zo Bool.false_ne_true ?_;exact k H1 s1
theorem JF (T:Txt K mg A):FnOk P w K mg base CX0 1 A.Zc1 A.Zbe ["page","name"] (Z3G A):=by
 refine T.Zav.ok Z2w (λvs H Q E h=>?_) (λcdv A' outer s H vs Q E hr h=>?_)
 ·obtain⟨pg,sn,dl,g,y,rfl,_⟩:=h;rfl
 ·obtain⟨pg,sn,dl,g,y,rfl,PA,hy,k⟩:=h;obtain⟨dp,mt,ct,kvs,h1,h2,h3,h4⟩:=PA.at';refine⟨_,(Z8 (Zr (Zk (Z0M (K:=K) rfl) (pv 1) (Zd (pv 0) rfl) (by with_unfolding_all rfl)) (Z8 ZG) Zm)),?_⟩;walk_at "r";refine⟨pg,_,_,_,_,rfl,h1,T.Z8u,T.Z8C,rfl,?_⟩;refine⟨sn,_,rfl,.inl (SqL.of PA.hs),rfl,XR g.sides,?_⟩;rw[if_pos rfl,Jk];walk_at "r";refine Zo (by rw[decide_eq_true hy];simp) ?_;walk_at "r";exact k
theorem Z05 (T:Txt K mg A):FnOk P w K mg base CX0 1 A.ZcM A.Zck ["page","name"] (Z5a A):=by
 refine T.ZaY.ok Z35 (λvs H Q E h=>?_) (λcdv A' outer s H vs Q E hr h=>?_)
 ·obtain⟨pg,sn,dl,g,y,rfl,_⟩:=h;rfl
 ·obtain⟨pg,sn,dl,g,y,rfl,PA,hy,k⟩:=h;obtain⟨dp,mt,ct,kvs,h1,h2,h3,h4⟩:=PA.at';have hu1:=Xq hr;refine⟨_,(Z8 (Zr (Zk (Z5l hu1) (pv 1) (Zd (pv 0) rfl) (by with_unfolding_all rfl)) (Z8 ZG) Zm)),?_⟩;walk_at "r";refine⟨pg,_,_,_,_,rfl,h1,T.Z8u,T.Z8B,rfl,?_⟩;refine⟨mt,_,rfl,DGet.k (k:=.inr y) h2,?_⟩;rw[h3.has y];walk_at "r";refine Zo (by rw[decide_eq_true hy];simp) ?_;walk_at "r";exact k
theorem Z1H (T:Txt K mg A):FnOk P w K mg base CX0 2 A.Zbw A.ZaD ["page","deed"] (Z38 A):=by
 have ZcU:=@Z05 P w K mg base A T;have Zcj:=@JF P w K mg base A T;refine T.Zbx.ok Z1O (λvs H Q E h=>?_) (λcdv A' outer s H vs Q E hr h=>?_)
 ·obtain⟨pg,sn,dl,dd,g,d,rfl,_⟩:=h;rfl
 ·obtain⟨pg,sn,dl,dd,g,d,rfl,PA,hd,ok,k⟩:=h;refine⟨_,(Z7 (Zr (Zk Y9 (Zg (ixT (K:=K) rfl) (pv 1) Z5 (λ_ _=>rfl)) Zw (Zp _)) (Z7 ZG
   (Z8 Z7c)) Zm)
   (Z7 (Zh (Za ZcU (hr.mono (by decide)) rfl T.ZcH T.ZaY.kp T.ZcX .nil Z9 (Z0 (pv 0) (Z0 (Zg (ixT (K:=K) rfl) (pv 1) Z5 (λ_ _=>rfl)) Z4))))
   (Z7 (Zr (Zk Y9 (Zg (ixT (K:=K) rfl) (pv 1) Z5 (λ_ _=>rfl)) Zw (Zp _)) (Z8 (Zh (Za Zcj (hr.mono (by decide)) rfl T.Zc9 T.Zav.kp T.Zcn .nil Z9 (Z0 (pv 0) (Z0 (Zg (ixT (K:=K) rfl) (pv 1) Z5 (λ_ _=>rfl)) Z4))))) Zm)
   (Z8 (Zr (Zk Y9 (Zg (ixT (K:=K) rfl) (pv 1) Z5 (λ_ _=>rfl)) Zw (Zp _)) (Z8 ZG) Zm))))),?_⟩
  cases d with
  | take m x=>
    walk_at "r";refine⟨dd,_,0,_,rfl,rfl,SqT.of hd,rfl,?_⟩;walk_at "r";refine⟨rfl,?_⟩;rw[ZD];walk_at "r";refine Zo (by decide) ?_;walk_at "r";refine⟨dd,_,1,_,rfl,rfl,SqT.of hd,rfl,?_⟩;walk_at "r";refine⟨pg,sn,dl,g,m,rfl,PA,ok.1,?_⟩;walk_at "r";refine⟨dd,_,0,_,rfl,rfl,SqT.of hd,rfl,?_⟩;walk_at "r";refine⟨rfl,?_⟩;rw[ZD];walk_at "r";refine ZJ (by decide) ?_;walk_at "r";refine⟨dd,_,2,_,rfl,rfl,SqT.of hd,rfl,?_⟩;walk_at "r";refine⟨pg,sn,dl,g,x,rfl,PA,ok.2,?_⟩;walk_at "r";refine⟨dd,_,0,_,rfl,rfl,SqT.of hd,rfl,?_⟩;walk_at "r";refine⟨rfl,?_⟩;rw[ZD];walk_at "r";refine Zo (by decide) ?_;walk_at "r";exact k
  | word m=>
    walk_at "r";refine⟨dd,_,0,_,rfl,rfl,SqT.of hd,rfl,?_⟩;walk_at "r";refine⟨rfl,?_⟩;rw[ZD];walk_at "r";refine Zo (by decide) ?_;walk_at "r";refine⟨dd,_,1,_,rfl,rfl,SqT.of hd,rfl,?_⟩;walk_at "r";refine⟨pg,sn,dl,g,m,rfl,PA,ok,?_⟩;walk_at "r";refine⟨dd,_,0,_,rfl,rfl,SqT.of hd,rfl,?_⟩;walk_at "r";refine⟨rfl,?_⟩;rw[ZD];walk_at "r";refine Zo (by decide) ?_;walk_at "r";refine⟨dd,_,0,_,rfl,rfl,SqT.of hd,rfl,?_⟩;walk_at "r";refine⟨rfl,?_⟩;rw[ZD];walk_at "r";refine Zo (by decide) ?_;walk_at "r";exact k
  | flee m=>
    walk_at "r";refine⟨dd,_,0,_,rfl,rfl,SqT.of hd,rfl,?_⟩;walk_at "r";refine⟨rfl,?_⟩;rw[ZD];walk_at "r";refine Zo (by decide) ?_;walk_at "r";refine⟨dd,_,1,_,rfl,rfl,SqT.of hd,rfl,?_⟩;walk_at "r";refine⟨pg,sn,dl,g,m,rfl,PA,ok,?_⟩;walk_at "r";refine⟨dd,_,0,_,rfl,rfl,SqT.of hd,rfl,?_⟩;walk_at "r";refine⟨rfl,?_⟩;rw[ZD];walk_at "r";refine Zo (by decide) ?_;walk_at "r";refine⟨dd,_,0,_,rfl,rfl,SqT.of hd,rfl,?_⟩;walk_at "r";refine⟨rfl,?_⟩;rw[ZD];walk_at "r";refine Zo (by decide) ?_;walk_at "r";exact k
theorem JU (T:Txt K mg A):FnOk P w K mg base CX0 1 A.ZbW A.Zbp ["page","number"] (Z43 A):=by
 refine T.Zay.ok Z2J (λvs H Q E h=>?_) (λcdv A' outer s H vs Q E hr h=>?_)
 ·obtain⟨pg,sn,dl,g,n,rfl,_⟩:=h;rfl
 ·obtain⟨pg,sn,dl,g,n,rfl,PA,h900,hin,k⟩:=h;obtain⟨dp,mt,ct,kvs,h1,h2,h3,h4⟩:=PA.at';obtain⟨es,f1,f2,f3⟩:=PA.hd;refine⟨_,(Z8 (Zr (Zk (Z0M (K:=K) rfl) (pv 1) (Z0y (N:=["entry"]) (fr:=[none]) rfl (J3 (osc:=Z3 Yb) (ON:=Z3m) (by decide +kernel) rfl rfl) (piL (K:=K) rfl (Zd (pv 0) rfl)) (λ_ _ _ _=>(Zu (i:=0) (show List.Nodup (["entry"]:List Str) by decide +kernel) rfl (Or.inl rfl))) (λ_ _ _ _=>(Zg (ixT (K:=K) rfl) (pv 0) Z5 (λ_ _=>rfl)))) (by with_unfolding_all rfl)) (Z8 ZG) Zm)),?_⟩;walk_at "r";refine⟨_,rfl,pg,_,_,_,_,rfl,h1,T.Z8u,T.Z8x,rfl,dl,rfl,⟨_,SqL.of f1⟩,λD hD=>?_⟩;refine Z1Q g.deeds.length (λi ys τ H2=>Same H H2∧H2 D=some (.lst ys)∧ys=((g.deeds.map (·.1)).take i).map V.int∧∃ u,τ=[u]) ⟨Same.new hD _,Z1,by simp,none,rfl⟩ (λi ys τ H2 _ q=>q.2.1) ?_ ?_
  ·rintro i ys τ H2 hi ⟨sm,hDz,rfl,u,rfl⟩;obtain⟨e,dd,a1,a2,a3⟩:=f3 i _ (List.getElem?_eq_getElem hi);refine⟨⟨_,.ref e,SqL.of (sm _ _ f1),by rw[List.getElem?_map,a1];rfl⟩,ZB (by simp;omega),?_⟩;rintro x' H3 ⟨rfl,hx⟩;obtain rfl:x'=V.ref e:=by
    have:=hx _ (SqL.of (sm _ _ f1));rw[List.getElem?_map,a1] at this;exact (Option.some.inj this).symm
   walk_at "r";refine⟨e,_,0,_,rfl,rfl,SqT.of (sm _ _ a2),rfl,?_⟩;refine⟨hDz,XN sm hD,Z1,?_,_,rfl⟩;rw[List.take_succ,List.getElem?_map,List.getElem?_eq_getElem hi,List.map_append];rfl
  ·rintro ys τ H2 ⟨sm,hDz,rfl,u,rfl⟩;refine⟨⟨_,SqL.of (sm _ _ f1),by rw[List.length_map];omega⟩,?_⟩;have tk:(g.deeds.map (·.1)).take g.deeds.length=g.deeds.map (·.1):=List.take_of_length_le (by simp);rw[tk] at hDz;refine⟨D,_,rfl,.inl (SqL.of hDz),rfl,Z56 _,?_⟩;rw[if_pos rfl,Z5J,decide_eq_true hin];walk_at "r";refine Zo (by decide) ?_;walk_at "r";exact k H2 sm
theorem Xf (T:Txt K mg A):FnOk P w K mg base CX0 1 A.Z9o A.Zbi ["self","side_names","man_table","cartel_table","deed_list","next_number"] (Z3R A):=by
 refine T.ZdS.ok Z2e (λvs H Q E h=>?_) (λcdv A' outer s H vs Q E hr h=>?_)
 ·obtain⟨x,dx,sn,mt,ct,dl,n,rfl,_⟩:=h;rfl
 ·obtain⟨x,dx,sn,mt,ct,dl,n,rfl,hx,k⟩:=h;refine⟨_,(Z7 (ZI (pv 0) (pv 1) rfl)
   (Z7 (ZI (pv 0) (pv 2) rfl)
   (Z7 (ZI (pv 0) (pv 3) rfl)
   (Z7 (ZI (pv 0) (pv 4) rfl)
   (Z8 (ZI (pv 0) (pv 5) rfl)))))),?_⟩
  walk_at "r";refine⟨x,_,dx,_,rfl,hx,T.Z8u,T.Z8C,by decide,?_⟩;walk_at "r";refine⟨x,_,dx,_,rfl,Z1,T.Z8u,T.Z8B,(show 1 < 1000 by decide),?_⟩;walk_at "r";refine⟨x,_,dx,_,rfl,Z1,T.Z8u,T.Z8D,(show 2 < 1000 by decide),?_⟩;walk_at "r";refine⟨x,_,dx,_,rfl,Z1,T.Z8u,T.Z8x,(show 3 < 1000 by decide),?_⟩;walk_at "r";refine⟨x,_,dx,_,rfl,Z1,T.Z8u,T.Z8A,(show 4 < 1000 by decide),?_⟩;walk_at "r";rw[ZU,ZU,ZU,ZU];exact k
theorem Z0I {A:Ad}{H:Hp}{x dx sn mt ct dl:Addr}{g:Pg}{kvs:List (Key×V)}(hx:H x=none)(hdx:H dx=none)(ne:dx≠x)(h1:H sn=some (.lst (g.sides.map V.str)))(h2:H mt=some (.dK kvs))(h3:Men H kvs g.men)(h4:H ct=some (.dT []))(h5:DlAt H dl g.deeds) :
 Same H (upd (upd (upd H dx (.own x)) x (.ins A.Z8z dx [])) x (.ins A.Z8z dx (Z0R sn mt (.ref ct) (.ref dl) g.next)))∧PgAt A (upd (upd (upd H dx (.own x)) x (.ins A.Z8z dx [])) x (.ins A.Z8z dx (Z0R sn mt (.ref ct) (.ref dl) g.next))) x sn dl g:=by
 have s:Same H (upd (upd (upd H dx (.own x)) x (.ins A.Z8z dx [])) x (.ins A.Z8z dx (Z0R sn mt (.ref ct) (.ref dl) g.next))):=λc o e=>by
  rw[Z2 (Z6 e hx),Z2 (Z6 e hx),Z2 (Z6 e hdx)];exact e
 exact⟨s,⟨⟨dx,mt,ct,kvs,Z1,s _ _ h2,h3.same λp xs e=>s _ _ e,s _ _ h4⟩,s _ _ h1,h5.same s⟩⟩
noncomputable def Z78 (A:Ad):Sp:=λvs H Q _=>vs=[]∧∀ (pg sn dl:Addr) (H':Hp),H sn=none→H dl=none→Same H H'→PgAt A H' pg sn dl ⟨[],[],[],1⟩→Q (.ref pg) H'
noncomputable def Z4c (A:Ad):Sp:=λvs H Q _=>∃ (pg sn dl:Addr) (g:Pg) (z:Str),vs=[.ref pg,.str z]∧z.cps.size≤1000∧g.sides.length < 6∧YY z=true∧¬ z∈g.sides∧PgAt A H pg sn dl g∧
 ∀ (pg' sn':Addr) (H':Hp),H sn'=none→Same H H'→PgAt A H' pg' sn' dl { g with sides:=g.sides++[z] }→Q (.ref pg') H'
noncomputable def Z51 (A:Ad):Sp:=λvs H Q _=>∃ (pg sn dl:Addr) (g:Pg) (z y:Str) (r:Int),vs=[.ref pg,.str z,.str y,.int r]∧z.cps.size≤1000∧g.men.length < 40∧YY z=true∧¬ z∈g.men.map (·.1)∧y∈g.sides∧(0≤r∧r < 6)∧PgAt A H pg sn dl g∧
 ∀ (pg':Addr) (H':Hp),Same H H'→PgAt A H' pg' sn dl { g with men:=g.men++[(z,y,r)] }→Q (.ref pg') H'
theorem Z1I (T:Txt K mg A):FnOk P w K mg base CX0 3 A.Zbu A.ZaE [] (Z78 A):=by
 have Z90:=@Xf P w K mg base A T;refine T.Zbs.ok Z1L (λvs H Q E h=>?_) (λcdv A' outer s H vs Q E hr h=>?_)
 ·obtain⟨rfl,_⟩:=h;rfl
 ·obtain⟨rfl,k⟩:=h;refine⟨_,(Z8 (Zj (Xh T.Zcv Z90 (hr.mono (by decide)) rfl T.Zdx T.Z9q .nil Z9 (Z0 (Y0 Z4) (Z0 Z0t (Z0 Z2i (Z0 (Y0 Z4) (Z0 Z5 Z4)))))))),?_⟩;walk_at "r";refine⟨by show 0≤sizeLine;decide,λsn hsn=>?_⟩;walk_at "r";intro mt hmt;have s1:=(Same.new hsn (HO.lst [])).trans (Same.new hmt (HO.dK []));walk_at "r";intro ca hca;walk_at "r";refine⟨by show 0≤sizeLine;decide,λde hde=>?_⟩;have s2:=(Same.new hca (HO.dT [])).trans (Same.new hde (HO.lst []));have hde0:=(s1.trans (Same.new hca (HO.dT []))).free hde;walk_at "r";intro x dx hx hdx ne;have e1:=s2 _ _ (Same.new hmt (HO.dK []) _ _ (Z1 (H:=H) (a:=sn) (o:=.lst [])));have e2:=s2 _ _ (Z1 (H:=upd H sn (.lst [])) (a:=mt) (o:=.dK []));have e3:=(Same.new hde (HO.lst [])) _ _ (Z1 (H:=upd (upd H sn (.lst [])) mt (.dK [])) (a:=ca) (o:=.dT []));obtain⟨s3,pa⟩:=Z0I (A:=A) (g:=⟨[],[],[],1⟩) (ct:=ca) (dl:=de) hx hdx ne e1 e2 Men.nil e3 ⟨[],Z1,rfl,λi d z=>by simp at z⟩;refine⟨x,dx,sn,mt,.ref ca,.ref de,1,rfl,Z1,rfl,?_⟩;exact k x sn de _ hsn hde0 (s1.trans (s2.trans s3)) pa
theorem Z2k (T:Txt K mg A):FnOk P w K mg base CX0 4 A.Zca A.Zbn ["page","name"] (Z4c A):=by
 have Z90:=@Xf P w K mg base A T;have Z9O:=@XJ P w K mg base A T;have Z9m:=@XE P w K mg base A T;refine T.Zcc.ok Z2d (λvs H Q E h=>?_) (λcdv A' outer s H vs Q E hr h=>?_)
 ·obtain⟨pg,sn,dl,g,z,rfl,_⟩:=h;rfl
 ·obtain⟨pg,sn,dl,g,z,rfl,hz,hzs,gz,nz,PA,k⟩:=h;obtain⟨dp,mt,ct,kvs,h1,h3,h4,h5⟩:=PA.at';have h2:=PA.hs;refine⟨_,(Z7 (Zh (Za Z9O (hr.mono (by decide)) rfl T.Z9T T.Z9c.kp T.Z9U .nil Z9 (Z0 (pv 1) (Z0 (Zd (pv 0) rfl) Z4))))
   (Z7 (Zh (Za Z9m (hr.mono (by decide)) rfl T.Zan T.Z9p.kp T.Zaw .nil Z9 (Z0 (ZA (XV (K:=K) rfl) rfl T.Z9d PySem.boot_len (Z0 (Zd (pv 0) rfl) Z4)) (Z0 (YL (i:=6) rfl T.Zdy) Z4))))
   (Z8 (Zj (Xh T.Zcv Z90 (hr.mono (by decide)) rfl T.Zdx T.Z9q .nil Z9 (Z0 (Zl Z4D (Zd (pv 0) rfl) (Y0 (Z0 (pv 1) Z4))) (Z0 (Zd (pv 0) rfl) (Z0 (Zd (pv 0) rfl) (Z0 (Zd (pv 0) rfl) (Z0 (Zd (pv 0) rfl) Z4)))))))))),?_⟩
  walk_at "r";refine⟨pg,_,_,_,_,rfl,h1,T.Z8u,T.Z8C,rfl,?_⟩;walk_at "r";refine⟨z,sn,rfl,hz,λH' s'=>.inl ⟨g.sides,SqL.of (s' _ _ h2),(decide_eq_false nz).symm⟩,gz,λH1 s1=>?_⟩
  ·skip
   walk_at "r";refine⟨pg,_,_,_,_,rfl,s1 _ _ h1,T.Z8u,T.Z8C,rfl,?_⟩;walk_at "r";refine⟨sn,_,rfl,.inl (SqL.of (s1 _ _ h2)),?_⟩;walk_at "r";rw[List.length_map];refine⟨_,_,rfl,by omega,?_⟩
   ·walk_at "r";refine⟨pg,_,_,_,_,rfl,s1 _ _ h1,T.Z8u,T.Z8C,rfl,?_⟩;walk_at "r";refine⟨by show 1≤sizeLine;decide,λq hq=>?_⟩;have s2:=Same.new hq (HO.lst [.str z]);refine⟨sn,q,_,_,rfl,rfl,s2 _ _ (s1 _ _ h2),Z1,small (by rw[List.length_map];show g.sides.length + 1≤1000;omega),λsn' hsn'=>?_⟩;have s3:=Same.new hsn' (HO.lst (g.sides.map V.str++[.str z]));have S3:=s1.trans (s2.trans s3);walk_at "r";refine⟨pg,_,_,_,_,rfl,S3 _ _ h1,T.Z8u,T.Z8B,rfl,?_⟩;walk_at "r";refine⟨pg,_,_,_,_,rfl,S3 _ _ h1,T.Z8u,T.Z8D,rfl,?_⟩;walk_at "r";refine⟨pg,_,_,_,_,rfl,S3 _ _ h1,T.Z8u,T.Z8x,rfl,?_⟩;walk_at "r";refine⟨pg,_,_,_,_,rfl,S3 _ _ h1,T.Z8u,T.Z8A,rfl,?_⟩;walk_at "r";intro x dx hx hdx ne;obtain⟨s4,pa⟩:=Z0I (A:=A) (g:={ g with sides:=g.sides++[z] }) (ct:=ct) (dl:=dl) hx hdx ne (sn:=sn') (by rw[Z1,List.map_append];rfl) (S3 _ _ h3) (h4.same λp xs e=>S3 _ _ e) (S3 _ _ h5) (PA.hd.same S3);refine⟨x,dx,sn',mt,.ref ct,.ref dl,g.next,rfl,Z1,rfl,?_⟩;exact k x sn' _ ((s1.trans s2).free hsn') (S3.trans s4) pa
theorem Z3a (T:Txt K mg A):FnOk P w K mg base CX0 4 A.ZcJ A.Zcg ["page","name","side","rank"] (Z51 A):=by
 have Z90:=@Xf P w K mg base A T;have Z9O:=@XJ P w K mg base A T;have Z9m:=@XE P w K mg base A T;have Zfp:=@Z24 P w K mg base A T;have Zcj:=@JF P w K mg base A T;refine T.ZcQ.ok ZdE (λvs H Q E h=>?_) (λcdv A' outer s H vs Q E hr h=>?_)
 ·obtain⟨pg,sn,dl,g,z,y,r,rfl,_⟩:=h;rfl
 ·obtain⟨pg,sn,dl,g,z,y,r,rfl,hz,hms,gz,nz,hy,hrk,PA,k⟩:=h;obtain⟨dp,mt,ct,kvs,h1,h3,h4,h5⟩:=PA.at';have h2:=PA.hs;have hu1:=Xq hr;refine⟨_,(Z7 (Zh (Za Z9O (hr.mono (by decide)) rfl T.Z9T T.Z9c.kp T.Z9U .nil Z9 (Z0 (pv 1) (Z0 (Zd (pv 0) rfl) Z4))))
   (Z7 (Zh (Za Zcj (hr.mono (by decide)) rfl T.Zc9 T.Zav.kp T.Zcn .nil Z9 (Z0 (pv 0) (Z0 (pv 2) Z4))))
   (Z7 (Zh (Za Zfp (hr.mono (by decide)) rfl T.ZdV T.Zce.kp T.ZdN .nil Z9 (Z0 (pv 3) Z4)))
   (Z7 (Zh (Za Z9m (hr.mono (by decide)) rfl T.Zan T.Z9p.kp T.Zaw .nil Z9 (Z0 (ZA Z5m rfl T.Z9d PySem.boot_len (Z0 (Zd (pv 0) rfl) Z4)) (Z0 (YL (i:=40) rfl T.Zev) Z4))))
   (Z7 (Zq (i:=4) ZdE.nd rfl (Or.inl rfl) (XU Z3K rfl T.ZfV PyProof.Rows.boot_dict (Z0 (Zd (pv 0) rfl) Z4)))
   (Z7 (JY hu1 (pv 4) (pv 1) (YN (Z0 (pv 2) (Z0 (pv 3) Z4))) rfl)
   (Z8 (Zj (Xh T.Zcv Z90 (hr.mono (by decide)) rfl T.Zdx T.Z9q .nil Z9 (Z0 (Zd (pv 0) rfl) (Z0 (pv 4) (Z0 (Zd (pv 0) rfl) (Z0 (Zd (pv 0) rfl) (Z0 (Zd (pv 0) rfl) Z4)))))))))))))),?_⟩
  walk_at "r";refine⟨pg,_,_,_,_,rfl,h1,T.Z8u,T.Z8B,rfl,?_⟩;walk_at "r";refine⟨z,mt,rfl,hz,λH' s'=>.inr ⟨_,DGet.k (k:=.inr z) (s' _ _ h3),by rw[h4.has z];exact (decide_eq_false nz).symm⟩,gz,λH1 s1=>?_⟩
  ·walk_at "r";refine⟨pg,sn,dl,g,y,rfl,PA.same s1,hy,?_⟩
   ·walk_at "r";refine⟨r,rfl,hrk,?_⟩
    ·walk_at "r";refine⟨pg,_,_,_,_,rfl,s1 _ _ h1,T.Z8u,T.Z8B,rfl,?_⟩;walk_at "r";refine⟨mt,kvs,rfl,s1 _ _ h3,?_⟩;walk_at "r";rw[h4.1];refine⟨_,_,rfl,by omega,?_⟩
     ·walk_at "r";refine⟨pg,_,_,_,_,rfl,s1 _ _ h1,T.Z8u,T.Z8B,rfl,?_⟩;walk_at "r";refine⟨mt,kvs,rfl,Rd.of (s1 _ _ h3),λmt' hmt'=>?_⟩;have s2:=Same.new hmt' (HO.dK kvs);walk_at "r";refine⟨by show 2≤sizeLine;decide,λtp htp=>?_⟩;have s3:=Same.new htp (HO.tup [.str y,.int r]);walk_at "r";refine⟨mt',_,rfl,DPut.k (k:=.inr z) (s3 _ _ Z1) (ZB (by rw[h4.1];omega)),?_⟩;rw[Z2h _ (by
       have e:=h4.has z;rw[decide_eq_false nz] at e;cases q:ZH kvs (.inr z) with
       | none=>rfl
       | some v=>rw[q] at e;cases e)]
      have mt1:H1 mt'=none:=hmt';have S4:Same H (upd (upd (upd H1 mt' (.dK kvs)) tp (.tup [.str y,.int r])) mt' (.dK (kvs++[(.inr z,.ref tp)]))):=λc o e=>by
       have e1:=s1 _ _ e;rw[Z2 (Z6 e1 mt1)];exact s3 _ _ (s2 _ _ e1)
      have etp:(upd (upd (upd H1 mt' (.dK kvs)) tp (.tup [.str y,.int r])) mt' (.dK (kvs++[(.inr z,.ref tp)]))) tp=some (.tup [.str y,.int r]):=by
       rw[Z2 (Ne.symm (Z6 Z1 htp)),Z1]
      have emt:(upd (upd (upd H1 mt' (.dK kvs)) tp (.tup [.str y,.int r])) mt' (.dK (kvs++[(.inr z,.ref tp)]))) mt'=some (.dK (kvs++[(.inr z,.ref tp)])):=Z1;have M4:=(h4.same (H':=upd (upd (upd H1 mt' (.dK kvs)) tp (.tup [.str y,.int r])) mt' (.dK (kvs++[(.inr z,.ref tp)]))) λp xs e=>S4 _ _ e).snoc (x:=z) etp;generalize upd (upd (upd H1 mt' (.dK kvs)) tp (.tup [.str y,.int r])) mt' (.dK (kvs++[(.inr z,.ref tp)]))=H5 at S4 emt M4 ⊢;walk_at "r";refine⟨pg,_,_,_,_,rfl,S4 _ _ h1,T.Z8u,T.Z8C,rfl,?_⟩;walk_at "r";refine⟨pg,_,_,_,_,rfl,S4 _ _ h1,T.Z8u,T.Z8D,rfl,?_⟩;walk_at "r";refine⟨pg,_,_,_,_,rfl,S4 _ _ h1,T.Z8u,T.Z8x,rfl,?_⟩;walk_at "r";refine⟨pg,_,_,_,_,rfl,S4 _ _ h1,T.Z8u,T.Z8A,rfl,?_⟩;walk_at "r";intro x dx hx hdx ne;obtain⟨s6,pa⟩:=Z0I (A:=A) (g:={ g with men:=g.men++[(z,y,r)] }) (ct:=ct) (dl:=dl) hx hdx ne (S4 _ _ h2) emt M4 (S4 _ _ h5) (PA.hd.same S4);refine⟨x,dx,sn,mt',.ref ct,.ref dl,g.next,rfl,Z1,rfl,?_⟩;exact k x _ (S4.trans s6) pa
end
inductive RunM (nm:Str):Ms→List (Int×Int×Deed)→Ms→Prop
 | nil {m:Ms}:RunM nm m [] m
 | cons {m m1 m2:Ms}{n day:Int}{d:Deed}{r:List (Int×Int×Deed)}:Xw d=nm→m.dead=false→StepM day m d m1→RunM nm m1 r m2→RunM nm m ((n,day,d)::r) m2
theorem RunM.append {nm:Str}{m m1 m2:Ms}{a b:List (Int×Int×Deed)}(h:RunM nm m a m1)(g:RunM nm m1 b m2):RunM nm m (a++b) m2:=by
 induction h with
 | nil=>exact g
 | cons a b c _ ih=>exact .cons a b c (ih g)
theorem RunM.split {nm:Str}{m2:Ms}{b:List (Int×Int×Deed)}:∀ {a:List (Int×Int×Deed)}{m:Ms},RunM nm m (a++b) m2→∃ m1,RunM nm m a m1∧RunM nm m1 b m2
 | [],m,h=>⟨m,.nil,h⟩
 | _::a,m,h=>by
   cases h with
   | cons x y z r=>
     obtain⟨m1,p,q⟩:=RunM.split (a:=a) r;exact⟨m1,.cons x y z p,q⟩
noncomputable def Z4C (A:Ad):Sp:=λvs H Q E=>∃ (mu dd:Addr) (n day:Int),vs=[.ref mu,.int n,.int day,.ref dd]∧Z6f A [.ref mu,.int day,.ref dd] H (λ_ H'=>Q .non H') E
noncomputable def Z68 (A:Ad):Sp:=λvs H Q _=>∃ (pg sn dl:Addr) (g:Pg) (told:Int) (nm hm:Str) (r:Int) (m:Ms),vs=[.ref pg,.int told]∧PgAt A H pg sn dl g∧g.men=[(nm,hm,r)]∧RunM nm ⟨hm,r,false,none⟩ g.deeds m∧∀ H',Same H H'→Q .non H'
noncomputable def Z47 (A:Ad):Sp:=λvs H Q _=>∃ (pg sn dl:Addr) (g:Pg) (last:Int) (nm hm:Str) (r:Int) (m:Ms),vs=[.ref pg,.int last]∧PgAt A H pg sn dl g∧g.men=[(nm,hm,r)]∧RunM nm ⟨hm,r,false,none⟩ g.deeds m∧(∀ d∈g.deeds,d.2.1≤last)∧∀ mu ct ps H',MusterAt A H H' mu ct [(nm,m)] ps []→Q (.ref mu) H'
section
variable {P:Program}{w:World}{K:W.Frag}{mg:Str→Option Value}{base:Heap}{A:Ad}
theorem Z1g {A:Ad}{B H:Hp}{mu ct dd:Addr}{ps:List (Addr×Addr)}{nm:Str}{m m1:Ms}{day:Int}{d:Deed}{Q:VK}{E:XK}(M:MusterAt A B H mu ct [(nm,m)] ps [])(hd:DeedAt H dd d)(hn:Xw d=nm)(hdead:m.dead=false)(st:StepM day m d m1)
 (k:∀ H' ps',MusterAt A B H' mu ct [(nm,m1)] ps' []→Q .non H'):Z6f A [.ref mu,.int day,.ref dd] H Q E:=
 ⟨B,mu,ct,dd,[(nm,m)],ps,[],day,0,nm,m,m1,d,rfl,trivial,hn,M,hd,rfl,hdead,st,λH' ps' M'=>k H' ps' M'⟩
theorem Z1f (T:Txt K mg A)(TD:DictF w K A.Z8y (Zs A)):FnOk P w K mg base CX0 5 A.ZaJ A.Za9 ["muster","number","day","deed"] (Z4C A):=by
 have ZaA:=@Jt P w K mg base A T TD;refine T.ZaT.ok Z11 (λvs H Q E h=>?_) (λcdv A' outer s H vs Q E hr h=>?_)
 ·obtain⟨mu,dd,n,day,rfl,_⟩:=h;rfl
 ·obtain⟨mu,dd,n,day,rfl,k⟩:=h;refine⟨_,(Z8 (Z76 (Z8 (Zh (Za ZaA (hr.mono (by decide)) rfl T.ZbK T.Zaz.kp T.ZbE .nil Z9 (Z0 (pv 0) (Z0 (pv 2) (Z0 (pv 3) Z4)))))))),?_⟩;walk_at "r";exact k
theorem Xe (T:Txt K mg A)(TD:DictF w K A.Z8y (Zs A)):FnOk P w K mg base CX0 6 A.Zah A.Z9G ["page","told"] (Z68 A):=by
 have ZaA:=@Jt P w K mg base A T TD;have ZeR:=@Z1f P w K mg base A T TD;have ZaM:=@Ja P w K mg base A T;refine T.Z96.ok Z8Y (λvs H Q E h=>?_) (λcdv A' outer s H vs Q E hr h=>?_)
 ·obtain⟨pg,sn,dl,g,told,nm,hm,r,m,rfl,_⟩:=h;rfl
 ·obtain⟨pg,sn,dl,g,told,nm,hm,r,m,rfl,PA,eg,run,k⟩:=h;obtain⟨dp,mt,ct,kvs,h1,h2,h3,h4⟩:=PA.at';obtain⟨es,f1,f2,f3⟩:=PA.hd;refine⟨_,(Z7 (Zq (i:=2) Z8Y.nd rfl (Or.inl rfl) (Xh T.Zdg ZaM (hr.mono (by decide)) rfl T.Zeg T.ZaG .nil Z9 (Z0 (Zd (pv 0) rfl) (Z0 (Zd (pv 0) rfl) Z4))))
   (Z8 (X1 PassesOwn.never rfl (piL (K:=K) rfl (Zd (pv 0) rfl)) (pgT (K:=K) (n:=3) rfl rfl (ZV (Zu (i:=3) Z8Y.nd rfl (Or.inl rfl)) (ZV (Zu (i:=4) Z8Y.nd rfl (Or.inl rfl)) (ZV (Zu (i:=5) Z8Y.nd rfl (Or.inl rfl)) Jc)))) (Z8 (Zr (Zk Y9 (pv 3) (pv 1) (Zp _)) (Z8 (Zh (Za ZaA (hr.mono (by decide)) rfl T.ZbK T.Zaz.kp T.ZbE .nil Z9 (Z0 (pv 2) (Z0 (pv 4) (Z0 (pv 5) Z4)))))) (Z8 (Zh (Za ZeR (hr.mono (by decide)) rfl T.Zd4 T.ZaT.kp T.Zd9 .nil Z9 (Z0 (pv 2) (Z0 (pv 3) (Z0 (pv 4) (Z0 (pv 5) Z4)))))))))))),?_⟩
  walk_at "r";refine⟨pg,_,_,_,_,rfl,h1,T.Z8u,T.Z8B,rfl,?_⟩;walk_at "r";refine⟨pg,_,_,_,_,rfl,h1,T.Z8u,T.Z8D,rfl,?_⟩;walk_at "r";intro mu dmu hmu hdmu nemu;refine⟨H,mu,dmu,mt,ct,kvs,g.men,rfl,λd o2 e2=>?_,hmu,Z1,h2,h3,by rw[eg];simp,by rw[eg];simp,λH1 ps M=>⟨rfl,?_⟩⟩
  ·rw[Z2 (Z6 e2 hmu),Z2 (Z6 e2 hdmu)];exact e2
  ·rw[eg] at M
   change MusterAt A H H1 mu ct [(nm,⟨hm,r,false,none⟩)] ps [] at M
   walk_at "r";refine⟨_,rfl,pg,_,_,_,_,rfl,M.same _ _ h1,T.Z8u,T.Z8x,rfl,dl,rfl,⟨_,SqL.of (M.same _ _ f1)⟩,?_⟩;refine Z1m (K:=K) (a:=dl) (xs:=es.map V.ref) (λi σ2 H2=>(∃ m0 ps,MusterAt A H H2 mu ct [(nm,m0)] ps []∧RunM nm m0 (g.deeds.drop i) m)∧∃ u1 u2 u3,σ2=[some (.ref pg),some (.int told),some (.ref mu),u1,u2,u3]) ⟨⟨_,ps,M,by simpa using run⟩,none,none,none,rfl⟩ (λi σ2 H2 _ q=>let ⟨⟨_,_,M2,_⟩,_⟩:=q;SqL.of (M2.same _ _ f1)) ?_ ?_
   ·rintro i v σ2 H2 ei ⟨⟨m0,ps2,M2,rn⟩,u1,u2,u3,rfl⟩;rw[List.getElem?_map] at ei;obtain⟨e,ee,rfl⟩:=Option.map_eq_some_iff.mp ei;have li:i < g.deeds.length:=by rw[←f2];exact (List.getElem?_eq_some_iff.mp ee).1
    obtain⟨n,day,d,ed⟩:∃ n day d,g.deeds[i]? = some (n,day,d):=⟨g.deeds[i].1,g.deeds[i].2.1,g.deeds[i].2.2,by simp[li]⟩;obtain⟨e',dd,a1,a2,a3⟩:=f3 i _ ed;rw[ee] at a1;cases a1;have hdrop:g.deeds.drop i=(n,day,d)::g.deeds.drop (i + 1):=by
     rw[List.drop_eq_getElem_cons li]
     congr 1
     obtain⟨_,z⟩:=List.getElem?_eq_some_iff.mp ed;exact z
    rw[hdrop] at rn;cases rn with
    | cons hn hdead st rr=>
    refine⟨e,_,rfl,SqT.of (M2.same _ _ a2),rfl,_,[.int day,.ref dd],rfl,_,[.ref dd],rfl,_,[],rfl,rfl,?_⟩;walk_at "r"
    by_cases ht:n=told
    ·refine ZJ (decide_eq_true ht) ?_;walk_at "r";exact Z1g M2 (a3.same M2.same) hn hdead st λH' ps' M'=>⟨⟨_,ps',M',rr⟩,_,_,_,rfl⟩
    ·refine Zo (λz=>ht (of_decide_eq_true z)) ?_;walk_at "r";exact⟨mu,dd,n,day,rfl,Z1g M2 (a3.same M2.same) hn hdead st λH' ps' M'=>⟨⟨_,ps',M',rr⟩,_,_,_,rfl⟩⟩
   ·rintro σ2 H2 ⟨⟨m0,ps2,M2,rn⟩,u1,u2,u3,rfl⟩;exact k H2 M2.same
theorem Z2b (T:Txt K mg A)(TD:DictF w K A.Z8y (Zs A)):FnOk P w K mg base CX0 6 A.ZbQ A.Zbm ["page","last"] (Z47 A):=by
 have ZaA:=@Jt P w K mg base A T TD;have ZaM:=@Ja P w K mg base A T;refine T.Zc7.ok Z9i (λvs H Q E h=>?_) (λcdv A' outer s H vs Q E hr h=>?_)
 ·obtain⟨pg,sn,dl,g,last,nm,hm,r,m,rfl,_⟩:=h;rfl
 ·obtain⟨pg,sn,dl,g,last,nm,hm,r,m,rfl,PA,eg,run,hle,k⟩:=h;obtain⟨dp,mt,ct,kvs,h1,h2,h3,h4⟩:=PA.at';obtain⟨es,f1,f2,f3⟩:=PA.hd;refine⟨_,(Z7 (Zq (i:=2) Z9i.nd rfl (Or.inl rfl) (Xh T.Zdg ZaM (hr.mono (by decide)) rfl T.Zeg T.ZaG .nil Z9 (Z0 (Zd (pv 0) rfl) (Z0 (Zd (pv 0) rfl) Z4))))
   (Z7 (X1 PassesOwn.never rfl (piL (K:=K) rfl (Zd (pv 0) rfl)) (pgT (K:=K) (n:=3) rfl rfl (ZV (Zu (i:=3) Z9i.nd rfl (Or.inl rfl)) (ZV (Zu (i:=4) Z9i.nd rfl (Or.inl rfl)) (ZV (Zu (i:=5) Z9i.nd rfl (Or.inl rfl)) Jc)))) (Z8 (Zr (Zk JZ (pv 4) (pv 1) (Zp _)) (Z8 (Zh (Za ZaA (hr.mono (by decide)) rfl T.ZbK T.Zaz.kp T.ZbE .nil Z9 (Z0 (pv 2) (Z0 (pv 4) (Z0 (pv 5) Z4)))))) Zm)))
   (Z8 (Zj (pv 2))))),?_⟩
  walk_at "r";refine⟨pg,_,_,_,_,rfl,h1,T.Z8u,T.Z8B,rfl,?_⟩;walk_at "r";refine⟨pg,_,_,_,_,rfl,h1,T.Z8u,T.Z8D,rfl,?_⟩;walk_at "r";intro mu dmu hmu hdmu nemu;refine⟨H,mu,dmu,mt,ct,kvs,g.men,rfl,λd o2 e2=>?_,hmu,Z1,h2,h3,by rw[eg];simp,by rw[eg];simp,λH1 ps M=>⟨rfl,?_⟩⟩
  ·rw[Z2 (Z6 e2 hmu),Z2 (Z6 e2 hdmu)];exact e2
  ·rw[eg] at M
   change MusterAt A H H1 mu ct [(nm,⟨hm,r,false,none⟩)] ps [] at M
   walk_at "r";refine⟨_,rfl,pg,_,_,_,_,rfl,M.same _ _ h1,T.Z8u,T.Z8x,rfl,dl,rfl,⟨_,SqL.of (M.same _ _ f1)⟩,?_⟩;refine Z1m (K:=K) (a:=dl) (xs:=es.map V.ref) (λi σ2 H2=>(∃ m0 ps,MusterAt A H H2 mu ct [(nm,m0)] ps []∧RunM nm m0 (g.deeds.drop i) m)∧∃ u1 u2 u3,σ2=[some (.ref pg),some (.int last),some (.ref mu),u1,u2,u3]) ⟨⟨_,ps,M,by simpa using run⟩,none,none,none,rfl⟩ (λi σ2 H2 _ q=>let ⟨⟨_,_,M2,_⟩,_⟩:=q;SqL.of (M2.same _ _ f1)) ?_ ?_
   ·rintro i v σ2 H2 ei ⟨⟨m0,ps2,M2,rn⟩,u1,u2,u3,rfl⟩;rw[List.getElem?_map] at ei;obtain⟨e,ee,rfl⟩:=Option.map_eq_some_iff.mp ei;have li:i < g.deeds.length:=by rw[←f2];exact (List.getElem?_eq_some_iff.mp ee).1
    obtain⟨n,day,d,ed⟩:∃ n day d,g.deeds[i]? = some (n,day,d):=⟨g.deeds[i].1,g.deeds[i].2.1,g.deeds[i].2.2,by simp[li]⟩;obtain⟨e',dd,a1,a2,a3⟩:=f3 i _ ed;rw[ee] at a1;cases a1;have hdrop:g.deeds.drop i=(n,day,d)::g.deeds.drop (i + 1):=by
     rw[List.drop_eq_getElem_cons li]
     congr 1
     obtain⟨_,z⟩:=List.getElem?_eq_some_iff.mp ed;exact z
    rw[hdrop] at rn;cases rn with
    | cons hn hdead st rr=>
    refine⟨e,_,rfl,SqT.of (M2.same _ _ a2),rfl,_,[.int day,.ref dd],rfl,_,[.ref dd],rfl,_,[],rfl,rfl,?_⟩;walk_at "r";refine ZJ (decide_eq_true (hle _ (List.mem_of_getElem? ed))) ?_;walk_at "r";exact Z1g M2 (a3.same M2.same) hn hdead st λH' ps' M'=>⟨⟨_,ps',M',rr⟩,_,_,_,rfl⟩
   ·rintro σ2 H2 ⟨⟨m0,ps2,M2,rn⟩,u1,u2,u3,rfl⟩;rw[List.length_map,f2,List.drop_length] at rn;cases rn;walk_at "r";exact k mu ct ps2 H2 M2
end
noncomputable def YI (m:Ms):Str:=if ZC m≠"" then "held" else if m.cl.isSome then "word" else "free"
noncomputable def ZL (m:Ms):List Str:=match m.cl with
 | some (s,_,true)=>[s]
 | _=>[]
noncomputable def Z82 (A:Ad):Sp:=λvs H Q _=>∃ (a c:Addr) (m:Ms),vs=[.ref a]∧ManAt A H a c m∧m.dead=false∧∀ H',Same H H'→Q (.str (YI m)) H'
noncomputable def Z6I (A:Ad):Sp:=λvs H Q _=>∃ (a c:Addr) (m:Ms),vs=[.ref a]∧ManAt A H a c m∧∀ p H',Same H H'→H p=none→H' p=some (.lst ((ZL m).map V.str))→Q (.ref p) H'
theorem Z1t {zs:List Str}(h:zs.length≤1):Xm zs=zs:=by
 unfold Xm;rw[XS (by omega)];refine List.ext_getElem (by simp) λi h1 h2=>?_;simp[h2]
section
variable {P:Program}{w:World}{K:W.Frag}{mg:Str→Option Value}{base:Heap}{A:Ad}
theorem Z5e (T:Txt K mg A):FnOk P w K mg base CX0 2 A.Zel A.Zdb ["man"] (Z82 A):=by
 have Z8O:=@YO P w K mg base A T;refine T.Ze9.ok Z4s (λvs H Q E h=>?_) (λcdv A' outer s H vs Q E hr h=>?_)
 ·obtain⟨a,c,m,rfl,_⟩:=h;rfl
 ·obtain⟨a,c,m,rfl,hm,hdead,k⟩:=h;obtain⟨⟨d,h1⟩,h2⟩:=id hm;refine⟨_,(Z7 (Zr (Xb (Zd (pv 0) rfl)) (Z8 (Zj Zw)) Zm)
   (Z7 (Zr (Zk Z1R (Za Z8O (hr.mono (by decide)) rfl T.Z9b T.Z92.kp T.Z99 .nil Z9 (Z0 (pv 0) Z4)) Zw (Zp _)) (Z8 (Zj Zw)) Zm)
   (Z8 (Zj (Z2K (Z0d (Zd (pv 0) rfl) (λ_=>rfl)) Zw Zw))))),?_⟩
  walk_at "r";refine⟨a,_,_,_,_,rfl,h1,T.Z8V,T.Zb0,rfl,?_⟩;walk_at "r";refine Zo (by rw[hdead];decide) ?_;walk_at "r";refine⟨a,c,m,rfl,hm,λH1 s1=>?_⟩;walk_at "r";refine⟨rfl,?_⟩;rw[ZD];walk_at "r"
  by_cases hh:ZC m=""
  ·refine Zo (by rw[beq_iff_eq.mpr hh];decide) ?_;walk_at "r";refine⟨a,_,_,_,_,rfl,s1 _ _ h1,T.Z8V,T.Z8J,rfl,?_⟩;cases e:m.cl with
   | none=>
     rw[e] at h2;refine⟨false,.inr (.inr ⟨_,s1 _ _ h2,rfl⟩),?_⟩;refine Zo (by decide) ?_;walk_at "r";have:YI m="free":=by unfold YI;rw[if_neg (by simpa using hh),e];rfl
     rw[←this];exact k H1 s1
   | some q=>
     rw[e] at h2;obtain⟨t,y1,y2⟩:=h2;refine⟨true,.inr (.inr ⟨_,s1 _ _ y1,rfl⟩),?_⟩;refine ZJ rfl ?_;walk_at "r";have:YI m="word":=by unfold YI;rw[if_neg (by simpa using hh),e];rfl
     rw[←this];exact k H1 s1
  ·refine ZJ (by rw[beq_eq_false_iff_ne.mpr hh];rfl) ?_;walk_at "r";have:YI m="held":=by unfold YI;rw[if_pos hh]
   rw[←this];exact k H1 s1
theorem Z33 (T:Txt K mg A):FnOk P w K mg base CX0 1 A.ZcT A.ZbO ["man"] (Z6I A):=by
 refine T.ZcO.ok Z3b (λvs H Q E h=>?_) (λcdv A' outer s H vs Q E hr h=>?_)
 ·obtain⟨a,c,m,rfl,_⟩:=h;rfl
 ·obtain⟨a,c,m,rfl,⟨⟨d,h1⟩,h2⟩,k⟩:=h;obtain⟨kvs,hc,hk,hl,hw⟩:∃ kvs:List (Key×V),H c=some (.dK kvs)∧(∀ i kk x,kvs[i]? = some (kk,x)→i=0∧∃ q t,m.cl=some q∧kk=.inr q.1∧x=.ref t∧H t=some (.tup [.int q.2.1,.bl q.2.2]))∧kvs.length≤1∧(kvs=[]→m.cl=none):=by
   cases e:m.cl with
   | none=>
     rw[e] at h2;exact⟨[],h2,λi kk x z=>by simp at z,by simp,λ_=>rfl⟩
   | some q=>
     rw[e] at h2;obtain⟨t,h3,h4⟩:=h2;refine⟨_,h3,λi kk x z=>?_,by simp,λz=>by simp at z⟩
     match i,z with
     | 0,z=>
       obtain⟨rfl,rfl⟩:Sum.inr q.1=kk∧V.ref t=x:=by simpa using z
       exact⟨rfl,q,t,rfl,rfl,rfl,h4⟩
  refine⟨_,(Z8 (Zj (Z6O (ZA (Z0U (K:=K) rfl) rfl T.ZcP PyProof.Rows.boot_sorted (Z0 (Z1u (N:=["side","claim"]) (fr:=[none,none]) rfl (J3 (osc:=Z3 Yn) (ON:=Z3L) (by decide +kernel) rfl rfl) (piD (Z0j (Zd (pv 0) rfl))) (λ_ _ _ _=>(pgT (K:=K) (n:=2) rfl rfl (ZV (Zu (i:=0) (show List.Nodup (["side","claim"]:List Str) by decide +kernel) rfl (Or.inl rfl)) (ZV (Zu (i:=1) (show List.Nodup (["side","claim"]:List Str) by decide +kernel) rfl (Or.inl rfl)) Jc)))) (λ_ _ _ _=>(Xb (Zg (ixT (K:=K) rfl) (pv 1) Z5 (λ_ _=>rfl)))) (λ_ _ _ _=>(pv 0))) Z4))))),?_⟩;walk_at "r";refine⟨_,rfl,a,_,_,_,_,rfl,h1,T.Z8V,T.Z8J,rfl,c,kvs,rfl,Rd.of hc,λv hv=>?_⟩;have sv:=Same.new hv (XQ v c);refine⟨v,c,kvs,rfl,Z1,.inl ⟨sv _ _ hc,λo nf D hD=>?_⟩⟩;have hD0:upd H v (XQ v c) D=none:=by
   rw[Z2 (Ne.symm (Z6 Z1 hD))] at hD;exact hD
  refine Z4X kvs.length (λi ys τ H2=>(∀ d2 u,H d2=some u→d2≠c→H2 d2=some u)∧H2 c=some (.frz o (.dK kvs))∧H2 D=some (.lst ys)∧(i=0→ys=[])∧(0 < i→ys=(ZL m).map V.str)∧∃ a b,τ=[a,b])
   ⟨λd2 u e ne=>?_,?_,Z1,λ_=>rfl,λz=>absurd z (Nat.lt_irrefl _),none,none,rfl⟩ (λi bs τ H2 _ q=>q.2.2.1) ?_ ?_
  ·rw[Z2 (Z6 (sv _ _ e) hD0),Z2 ne];exact sv _ _ e
  ·rw[Z2 (Z6 (sv _ _ hc) hD0),Z1]
  ·rintro i ys τ H2 hi ⟨kp,hz,hDy,y0,y1,a1,b1,rfl⟩;obtain rfl:i=0:=by omega
   obtain rfl:=y0 rfl;refine⟨⟨hz,hi⟩,ZB (by simp),?_⟩;rintro x' H3 ⟨p,kk,x,rfl,hp,rfl,ek⟩;obtain⟨_,q,t,eq,rfl,rfl,et⟩:=hk 0 kk x ek;refine⟨p,_,rfl,SqT.of Z1,rfl,_,[V.ref t],rfl,_,[],rfl,rfl,?_⟩;have sp:=Same.new hp (HO.tup [kV (Sum.inr q.1),V.ref t]);have et2:=sp _ _ (kp _ _ et (Zi et hc (by simp)));walk_at "r";refine⟨t,_,1,_,rfl,rfl,SqT.of et2,rfl,?_⟩;obtain⟨q1,q2,q3⟩:=q;cases q3 with
   | true=>
     refine⟨true,rfl,?_⟩;refine ZJ rfl ?_;walk_at "r";refine⟨sp _ _ hDy,λd2 u e ne=>?_,?_,Z1,λz=>absurd z (by omega),λ_=>?_,_,_,rfl⟩
     ·rw[Z2 (Z6 (sv _ _ e) hD0)];exact sp _ _ (kp d2 u e ne)
     ·rw[Z2 (Z6 (sv _ _ hc) hD0)];exact sp _ _ hz
     ·unfold ZL;rw[eq];rfl
   | false=>
     refine⟨false,rfl,?_⟩;refine Zo (by decide) ?_;refine⟨λd2 u e ne=>sp _ _ (kp d2 u e ne),sp _ _ hz,sp _ _ hDy,λz=>absurd z (by omega),λ_=>?_,_,_,rfl⟩;unfold ZL;rw[eq];rfl
  ·rintro ys τ H2 ⟨kp,hz,hDy,y0,y1,a1,b1,rfl⟩;refine⟨⟨hz,Nat.le_refl _⟩,?_⟩;have ey:ys=(ZL m).map V.str:=by
    by_cases hl0:kvs.length=0
    ·rw[y0 hl0];have:=hw (List.eq_nil_of_length_eq_zero hl0);unfold ZL;rw[this];rfl
    ·exact y1 (by omega)
   subst ey;have lw:(ZL m).length≤1:=by
    unfold ZL
    split<;>simp
   walk_at "r";refine⟨D,ZL m,rfl,SqL.of hDy,by omega,λp hp=>?_⟩;rw[Z1t lw];have sp:=Same.new hp (HO.lst ((ZL m).map V.str));have hz':=sp _ _ hz;have npm:p≠c:=Ne.symm (Z6 hz hp);have hp0:H p=none:=by
    cases e:H p with
    | none=>rfl
    | some u=>rw[kp p u e npm] at hp;cases hp
   refine⟨_,.inr ⟨c,o,kvs,nf,hz',rfl⟩,k p _ (λd2 u e=>?_) hp0 ?_⟩
   ·by_cases hd:d2=c
    ·subst hd;rw[hc] at e;cases e;exact Z1
    ·rw[Z2 hd];exact sp _ _ (kp d2 u e hd)
   ·rw[Z2 npm,Z1]
end
noncomputable def Z2Y (ds:List (Int×Int×Deed)):List (Int×Int):=ds.map λd=>(d.2.1,d.1)
noncomputable def SortedD (ds:List (Int×Int×Deed)):Prop:=ds.length < 64∧ds.Pairwise (λa b=>a.2.1 < b.2.1)
theorem Z5k {n:Nat}(h:n < 64):W.sortP (λi j=>decide (i < j)) n=List.range n:=by
 have:∀ n:Fin 64,W.sortP (λi j=>decide (i < j)) n.val=List.range n.val:=by decide +kernel
 exact this ⟨n,h⟩
theorem Z0b {ds:List (Int×Int×Deed)}{i:Nat}{d:Int×Int×Deed}(h:ds[i]? = some d):(Z2Y ds).getD i (0,0)=(d.2.1,d.1):=by
 unfold Z2Y;rw[List.getD_eq_getElem?_getD,List.getElem?_map,h];rfl
theorem SortedD.lt {ds:List (Int×Int×Deed)}(h:SortedD ds){i j:Nat}(hi:i < ds.length)(hj:j < ds.length):ltK (Z2Y ds) i j=decide (i < j):=by
 have pw:=List.pairwise_iff_getElem.mp h.2;unfold ltK;rw[Z0b (List.getElem?_eq_getElem hi),Z0b (List.getElem?_eq_getElem hj)];dsimp only
 rcases Nat.lt_trichotomy i j with l|l|l
 ·have:=pw i j hi hj l;simp[this,l]
 ·subst l;simp
 ·have:=pw j i hj hi l;have h1:¬ ds[i].2.1 < ds[j].2.1:=by omega
  have h2:¬ ds[i].2.1=ds[j].2.1:=by omega
  have h3:¬ i < j:=by omega
  simp[h1,h2,h3]
theorem Z3S {ds:List (Int×Int×Deed)}{es:List Addr}(h:SortedD ds)(e:es.length=ds.length):Xg (Z2Y ds) es=es:=by
 unfold Xg;rw[W.sortP_congr (lt':=λi j=>decide (i < j)) (λi j hi hj=>h.lt (by omega) (by omega)),Z5k (by have:=h.1;omega)];refine List.ext_getElem (by simp) λi h1 h2=>?_;simp[h2]
noncomputable def Z31 (A:Ad):Sp:=λvs H Q _=>∃ (pg sn dl le:Addr) (g:Pg) (ds:List (Int×Int×Deed)) (n:Int),vs=[.ref pg,.ref le,.int n]∧PgAt A H pg sn dl g∧DlAt H le ds∧SortedD ds∧
 ∀ (pg' dl':Addr) (H':Hp),H dl'=none→Same H H'→PgAt A H' pg' sn dl' { g with deeds:=ds,next:=n }→Q (.ref pg') H'
noncomputable def RunG (g:Pg)(ds:List (Int×Int×Deed)):Prop:=∃ nm hm r m,g.men=[(nm,hm,r)]∧RunM nm ⟨hm,r,false,none⟩ ds m
noncomputable def Z4d (g:Pg)(day:Int)(d:Deed):Pg:={ g with deeds:=g.deeds++[(g.next,day,d)],next:=g.next + 1 }
noncomputable def Z4e (A:Ad):Sp:=λvs H Q _=>∃ (pg sn dl dd:Addr) (g:Pg) (day:Int) (d:Deed),vs=[.ref pg,.int g.next,.int day,.ref dd]∧PgAt A H pg sn dl g∧DeedAt H dd d∧(0≤day∧day≤1000000)∧okN g d∧SortedD (g.deeds++[(g.next,day,d)])∧RunG g (g.deeds++[(g.next,day,d)])∧
    ∀ (pg' dl':Addr) (H':Hp),H dl'=none→Same H H'→PgAt A H' pg' sn dl' (Z4d g day d)→Q (.ref pg') H'
noncomputable def Z4F (A:Ad):Sp:=λvs H Q _=>∃ (pg sn dl:Addr) (g:Pg) (n:Int) (ds:List (Int×Int×Deed)),vs=[.ref pg,.int n]∧PgAt A H pg sn dl g∧g.deeds.length≤900∧n∈g.deeds.map (·.1)∧ds=g.deeds.filter (λd=>!decide (d.1=n))∧SortedD ds∧RunG g ds∧
    ∀ (pg' dl':Addr) (H':Hp),H dl'=none→Same H H'→PgAt A H' pg' sn dl' { g with deeds:=ds }→Q (.ref pg') H'
noncomputable def Z5R (A:Ad):Sp:=λvs H Q _=>∃ (pg sn dl:Addr) (g:Pg) (n day:Int) (ds:List (Int×Int×Deed)),vs=[.ref pg,.int n,.int day]∧PgAt A H pg sn dl g∧g.deeds.length≤900∧n∈g.deeds.map (·.1)∧(0≤day∧day≤1000000)∧ds=g.deeds.map (λd=>if d.1=n then (d.1,day,d.2.2) else d)∧SortedD ds∧RunG g ds∧
    ∀ (pg' dl':Addr) (H':Hp),H dl'=none→Same H H'→PgAt A H' pg' sn dl' { g with deeds:=ds }→Q (.ref pg') H'
section
variable {P:Program}{w:World}{K:W.Frag}{mg:Str→Option Value}{base:Heap}{A:Ad}
theorem Xu (T:Txt K mg A):FnOk P w K mg base CX0 4 A.Zbc A.ZaH ["page","entries","next_number"] (Z31 A):=by
 have Z90:=@Xf P w K mg base A T;have ZeD:=@Z0s P w K mg base A T;refine T.Z9g.ok Zd8 (λvs H Q E h=>?_) (λcdv A' outer s H vs Q E hr h=>?_)
 ·obtain⟨pg,sn,dl,le,g,ds,n,rfl,_⟩:=h;rfl
 ·obtain⟨pg,sn,dl,le,g,ds,n,rfl,PA,hds,srt,k⟩:=h;obtain⟨dp,mt,ct,kvs,h1,h3,h4,h5⟩:=PA.at';obtain⟨es,f1,f2,f3⟩:=id hds;refine⟨_,(Z7 (Zq (i:=3) Zd8.nd rfl (Or.inl rfl) (Z5B ZeD (hr.mono (by decide)) T.ZbM rfl T.ZcP rfl T.ZbH (pv 1)))
   (Z8 (Zj (Xh T.Zcv Z90 (hr.mono (by decide)) rfl T.Zdx T.Z9q .nil Z9 (Z0 (Zd (pv 0) rfl) (Z0 (Zd (pv 0) rfl) (Z0 (Zd (pv 0) rfl) (Z0 (pv 3) (Z0 (pv 2) Z4))))))))),?_⟩
  walk_at "r";refine Z5O ?_;walk_at "r";refine⟨le,es,Z2Y ds,rfl,SqL.of f1,by have:=srt.1;omega,λHc sc i hi=>?_,λdl' H1 s1 hdl ed=>?_⟩
  ·obtain⟨nn,day,d,ed⟩:∃ nn day d,ds[i]? = some (nn,day,d):=by
    have li:i < ds.length:=by omega
    exact⟨ds[i].1,ds[i].2.1,ds[i].2.2,by simp[li]⟩
   obtain⟨e,dd,a1,a2,a3⟩:=f3 i _ ed;have ee:es.getD i 0=e:=by rw[List.getD_eq_getElem?_getD,a1];rfl
   rw[ee,Z0b ed];exact⟨e,dd,nn,day,rfl,sc _ _ a2,λp hp=>⟨Same.new hp _,p,rfl,Z1⟩⟩
  ·rw[Z3S srt f2] at ed;walk_at "r";refine⟨pg,_,_,_,_,rfl,s1 _ _ h1,T.Z8u,T.Z8C,rfl,?_⟩;walk_at "r";refine⟨pg,_,_,_,_,rfl,s1 _ _ h1,T.Z8u,T.Z8B,rfl,?_⟩;walk_at "r";refine⟨pg,_,_,_,_,rfl,s1 _ _ h1,T.Z8u,T.Z8D,rfl,?_⟩;walk_at "r";intro x dx hx hdx ne;obtain⟨s6,pa⟩:=Z0I (A:=A) (g:={ g with deeds:=ds,next:=n }) (ct:=ct) (dl:=dl') hx hdx ne (s1 _ _ PA.hs) (s1 _ _ h3) (h4.same λp xs e=>s1 _ _ e) (s1 _ _ h5) ⟨es,ed,f2,λi d e=>let ⟨x,dd,p,q,r⟩:=f3 i d e;⟨x,dd,p,s1 _ _ q,r.same s1⟩⟩;refine⟨x,dx,sn,mt,.ref ct,.ref dl',n,rfl,Z1,rfl,?_⟩;exact k x dl' _ hdl (s1.trans s6) pa
theorem Z2E (T:Txt K mg A)(TD:DictF w K A.Z8y (Zs A)):FnOk P w K mg base CX0 7 A.ZbT A.ZbD ["page","number","day","deed"] (Z4e A):=by
 have Z9h:=@Xu P w K mg base A T;have Z93:=@Xe P w K mg base A T TD;have ZcY:=@Z08 P w K mg base A T;have Z9m:=@XE P w K mg base A T;have Zf1:=@Z1H P w K mg base A T;refine T.Zcq.ok Zdl (λvs H Q E h=>?_) (λcdv A' outer s H vs Q E hr h=>?_)
 ·obtain⟨pg,sn,dl,dd,g,day,d,rfl,_⟩:=h;rfl
 ·obtain⟨pg,sn,dl,dd,g,day,d,rfl,PA,hd,hday,ok,srt,⟨nm,hm,r,m,eg,run⟩,k⟩:=h;obtain⟨dp,mt,ct,kvs,h1,h3,h4,h5⟩:=PA.at';obtain⟨es,f1,f2,f3⟩:=PA.hd;refine⟨_,(Z7 (Zh (Za ZcY (hr.mono (by decide)) rfl T.ZcN T.ZaX.kp T.ZcS .nil Z9 (Z0 (pv 2) Z4)))
   (Z7 (Zh (Za Zf1 (hr.mono (by decide)) rfl T.Zdn T.Zbx.kp T.Zdq .nil Z9 (Z0 (pv 0) (Z0 (pv 3) Z4))))
   (Z7 (Zh (Za Z9m (hr.mono (by decide)) rfl T.Zan T.Z9p.kp T.Zaw .nil Z9 (Z0 (ZA (XV (K:=K) rfl) rfl T.Z9d PySem.boot_len (Z0 (Zd (pv 0) rfl) Z4)) (Z0 (YL (i:=120) rfl T.Zdm) Z4))))
   (Z7 (Zq (i:=4) Zdl.nd rfl (Or.inl rfl) (Za Z9h (hr.mono (by decide)) rfl T.Z9H T.Z9g.kp T.Z9R .nil Z9 (Z0 (pv 0) (Z0 (Zl Z4D (Zd (pv 0) rfl) (Y0 (Z0 (YN (Z0 (pv 1) (Z0 (pv 2) (Z0 (pv 3) Z4)))) Z4))) (Z0 (ZA (Z4z rfl) rfl T.ZfZ L2.boot_max (Z0 (Zd (pv 0) rfl) (Z0 (Zl Yl (pv 1) Z5) Z4))) Z4)))))
   (Z7 (Zh (Za Z93 (hr.mono (by decide)) rfl T.Z9l T.Z96.kp T.Z9k .nil Z9 (Z0 (pv 4) (Z0 (pv 1) Z4))))
   (Z8 (Zj (pv 4)))))))),?_⟩
  walk_at "r";refine⟨day,rfl,hday,?_⟩;walk_at "r";refine⟨pg,sn,dl,dd,g,d,rfl,PA,hd,ok,?_⟩;have hlen:g.deeds.length < 63:=by have:=srt.1;simp at this;omega
  walk_at "r";refine⟨pg,_,_,_,_,rfl,h1,T.Z8u,T.Z8x,rfl,?_⟩;walk_at "r";refine⟨dl,_,rfl,.inl (SqL.of f1),?_⟩;walk_at "r";rw[List.length_map,f2];refine⟨_,_,rfl,by omega,?_⟩;walk_at "r";refine⟨pg,_,_,_,_,rfl,h1,T.Z8u,T.Z8x,rfl,?_⟩;walk_at "r";refine⟨by show 3≤sizeLine;decide,λtp htp=>?_⟩;have s2:=Same.new htp (HO.tup [.int g.next,.int day,.ref dd]);walk_at "r";refine⟨by show 1≤sizeLine;decide,λq hq=>?_⟩;have s3:=Same.new hq (HO.lst [.ref tp]);have S3:=s2.trans s3;refine⟨dl,q,_,_,rfl,rfl,S3 _ _ f1,Z1,small (by rw[List.length_map];show es.length + 1≤1000;omega),λle hle=>?_⟩;have s4:=Same.new hle (HO.lst (es.map V.ref++[.ref tp]));have S4:=S3.trans s4;walk_at "r";refine⟨pg,_,_,_,_,rfl,S4 _ _ h1,T.Z8u,T.Z8A,rfl,?_⟩;walk_at "r";refine⟨_,_,rfl,?_⟩;walk_at "r";have D4:DlAt (upd (upd (upd H tp (.tup [.int g.next,.int day,.ref dd])) q (.lst [.ref tp])) le (.lst (es.map V.ref++[.ref tp]))) le (g.deeds++[(g.next,day,d)]):=by
   refine⟨es++[tp],by rw[Z1,List.map_append];rfl,by simp[f2],λi d2 e2=>?_⟩
   by_cases hi:i < g.deeds.length
   ·rw[List.getElem?_append_left hi] at e2;obtain⟨e',dd2,a1,a2,a3⟩:=f3 i d2 e2;exact⟨e',dd2,by rw[List.getElem?_append_left (by omega)];exact a1,S4 _ _ a2,a3.same S4⟩
   ·have hi2:i=g.deeds.length:=by
     have:=(List.getElem?_eq_some_iff.mp e2).1;simp at this;omega
    subst hi2;rw[List.getElem?_append_right (Nat.le_refl _),Nat.sub_self] at e2;cases e2;refine⟨tp,dd,by rw[List.getElem?_append_right (by omega),f2,Nat.sub_self];rfl,?_,hd.same S4⟩;exact s4 _ _ (s3 _ _ Z1)
  refine⟨pg,sn,dl,le,g,_,_,rfl,PA.same S4,D4,srt,λpg' dl' H5 hdl' s5 pa=>?_⟩;rw[if_pos (show g.next + 1 > g.next by omega)] at pa;walk_at "r";have S5:=S4.trans s5;refine⟨pg',sn,dl',_,g.next,nm,hm,r,m,rfl,pa,eg,run,λH6 s6=>?_⟩;walk_at "r";exact k pg' dl' H6 (S4.free hdl') (S5.trans s6) (pa.same s6)
end
noncomputable def DlE (H:Hp)(es:List Addr)(ds:List (Int×Int×Deed)):Prop:=es.length=ds.length∧∀ (i:Nat) (d:Int×Int×Deed),ds[i]? = some d→∃ e dd,es[i]? = some e∧H e=some (.tup [.int d.1,.int d.2.1,.ref dd])∧DeedAt H dd d.2.2
theorem DlE.same {H H':Hp}{es:List Addr}{ds:List (Int×Int×Deed)}(h:DlE H es ds)(s:Same H H'):DlE H' es ds:=
 ⟨h.1,λi d e=>let ⟨x,dd,p,q,r⟩:=h.2 i d e;⟨x,dd,p,s _ _ q,r.same s⟩⟩
theorem DlE.snoc {H:Hp}{es:List Addr}{ds:List (Int×Int×Deed)}{e dd:Addr}{d:Int×Int×Deed}(h:DlE H es ds)(h1:H e=some (.tup [.int d.1,.int d.2.1,.ref dd]))(h2:DeedAt H dd d.2.2):DlE H (es++[e]) (ds++[d]):=by
 refine⟨by simp[h.1],λi d2 e2=>?_⟩
 by_cases hi:i < ds.length
 ·rw[List.getElem?_append_left hi] at e2;obtain⟨e',dd2,a1,a2,a3⟩:=h.2 i d2 e2;exact⟨e',dd2,by rw[List.getElem?_append_left (by rw[h.1];exact hi)];exact a1,a2,a3⟩
 ·have hi2:i=ds.length:=by
   have:=(List.getElem?_eq_some_iff.mp e2).1;simp at this;omega
  subst hi2;rw[List.getElem?_append_right (Nat.le_refl _),Nat.sub_self] at e2;cases e2;exact⟨e,dd,by rw[←h.1,List.getElem?_append_right (Nat.le_refl _),Nat.sub_self];rfl,h1,h2⟩
theorem DeedAt.put {H:Hp}{dd D:Addr}{xs ys:List V}{d:Deed}(h:DeedAt H dd d)(hD:H D=some (.lst xs)):DeedAt (upd H D (.lst ys)) dd d:=by
 cases d with
 | take m x=>
   have h':H dd=some (.tup _):=h;show upd H D _ dd=_;rw[Z2 (Zi h' hD (by simp))];exact h'
 | word m=>
   have h':H dd=some (.tup _):=h;show upd H D _ dd=_;rw[Z2 (Zi h' hD (by simp))];exact h'
 | flee m=>
   have h':H dd=some (.tup _):=h;show upd H D _ dd=_;rw[Z2 (Zi h' hD (by simp))];exact h'
theorem DlE.put {H:Hp}{D:Addr}{xs ys:List V}{es:List Addr}{ds:List (Int×Int×Deed)}(h:DlE H es ds)(hD:H D=some (.lst xs)):DlE (upd H D (.lst ys)) es ds:=
 ⟨h.1,λi d e=>let ⟨x,dd,p,q,r⟩:=h.2 i d e;⟨x,dd,p,by rw[Z2 (Zi q hD (by simp))];exact q,r.put hD⟩⟩
section
variable {P:Program}{w:World}{K:W.Frag}{mg:Str→Option Value}{base:Heap}{A:Ad}
theorem Z0X (T:Txt K mg A)(TD:DictF w K A.Z8y (Zs A)):FnOk P w K mg base CX0 7 A.Za2 A.Z9Z ["page","number"] (Z4F A):=by
 have Z9h:=@Xu P w K mg base A T;have Z93:=@Xe P w K mg base A T TD;have Zcp:=@JU P w K mg base A T;refine T.Zaa.ok ZbG (λvs H Q E h=>?_) (λcdv A' outer s H vs Q E hr h=>?_)
 ·obtain⟨pg,sn,dl,g,n,ds,rfl,_⟩:=h;rfl
 ·obtain⟨pg,sn,dl,g,n,ds,rfl,PA,h900,hin,eds,srt,⟨nm,hm,r,m,eg,run⟩,k⟩:=h;obtain⟨dp,mt,ct,kvs,h1,h3,h4,h5⟩:=PA.at';obtain⟨es,f1,f2,f3⟩:=PA.hd;refine⟨_,(Z7 (Zh (Za Zcp (hr.mono (by decide)) rfl T.ZbP T.Zay.kp T.Zci .nil Z9 (Z0 (pv 0) (Z0 (pv 1) Z4))))
   (Z7 (Zq (i:=2) ZbG.nd rfl (Or.inl rfl) (Za Z9h (hr.mono (by decide)) rfl T.Z9H T.Z9g.kp T.Z9R .nil Z9 (Z0 (pv 0) (Z0 (Z1u (N:=["entry","number"]) (fr:=[none,some 1]) rfl (J3 (osc:=Z3 ZM) (ON:=Z1b) (by decide +kernel) rfl rfl) (piL (K:=K) rfl (Zd (pv 0) rfl)) (λ_ _ _ _=>(Zu (i:=0) (show List.Nodup (["entry","number"]:List Str) by decide +kernel) rfl (Or.inl rfl))) (λ_ _ _ _=>(Zk Z1R (Zg (ixT (K:=K) rfl) (pv 0) Z5 (λ_ _=>rfl)) (pv 1) (Zp _))) (λ_ _ _ _=>(pv 0))) (Z0 (Zd (pv 0) rfl) Z4)))))
   (Z7 (Zh (Za Z93 (hr.mono (by decide)) rfl T.Z9l T.Z96.kp T.Z9k .nil Z9 (Z0 (pv 2) (Z0 (YL (i:=0) rfl T.Zc3) Z4))))
   (Z8 (Zj (pv 2)))))),?_⟩
  walk_at "r";refine⟨pg,sn,dl,g,n,rfl,PA,h900,hin,λH1 s1=>?_⟩;walk_at "r";refine⟨_,rfl,pg,_,_,_,_,rfl,s1 _ _ h1,T.Z8u,T.Z8x,rfl,dl,rfl,⟨_,SqL.of (s1 _ _ f1)⟩,λD hD=>?_⟩;refine Z4X g.deeds.length (λi ys τ H2=>Same H1 H2∧H2 D=some (.lst ys)∧(∃ es',ys=es'.map V.ref∧DlE H2 es' ((g.deeds.take i).filter λd=>!decide (d.1=n)))∧∃ u,τ=[u,some (.int n)]) ⟨Same.new hD _,Z1,⟨[],rfl,rfl,λi d z=>by simp at z⟩,none,rfl⟩ (λi ys τ H2 _ q=>q.2.1) ?_ ?_
  ·rintro i ys τ H2 hi ⟨sm,hDz,⟨es',rfl,de⟩,u,rfl⟩;obtain⟨e,dd,a1,a2,a3⟩:=f3 i _ (List.getElem?_eq_getElem hi);have S2:=s1.trans sm;have lf:es'.length≤i:=by
    rw[de.1];refine Nat.le_trans (List.length_filter_le _ _) ?_;rw[List.length_take];omega
   refine⟨⟨_,.ref e,SqL.of (S2 _ _ f1),by rw[List.getElem?_map,a1];rfl⟩,ZB (by rw[List.length_map];omega),?_⟩;rintro x' H3 ⟨rfl,hx⟩;obtain rfl:x'=V.ref e:=by
    have:=hx _ (SqL.of (S2 _ _ f1));rw[List.getElem?_map,a1] at this;exact (Option.some.inj this).symm
   walk_at "r";refine⟨e,_,0,_,rfl,rfl,SqT.of (S2 _ _ a2),rfl,?_⟩;walk_at "r";have et:g.deeds.take (i + 1)=g.deeds.take i++[g.deeds[i]]:=by rw[List.take_succ,List.getElem?_eq_getElem hi];rfl
   by_cases hn:(g.deeds[i]).1=n
   ·refine Zo (by rw[decide_eq_true hn];decide) ?_;refine⟨sm,hDz,⟨es',rfl,?_⟩,_,rfl⟩;rw[et,List.filter_append,List.filter_cons_of_neg (by simp[hn]),List.filter_nil,List.append_nil];exact de
   ·refine ZJ (by rw[decide_eq_false hn];rfl) ?_;walk_at "r";refine⟨hDz,XN sm hD,Z1,⟨es'++[e],by rw[List.map_append];rfl,?_⟩,_,rfl⟩;rw[et,List.filter_append,List.filter_cons_of_pos (by simp[hn]),List.filter_nil];exact (de.snoc (S2 _ _ a2) (a3.same S2)).put hDz
  ·rintro ys τ H2 ⟨sm,hDz,⟨es',rfl,de⟩,u,rfl⟩;have S2:=s1.trans sm;refine⟨⟨_,SqL.of (S2 _ _ f1),by rw[List.length_map];omega⟩,?_⟩;rw[List.take_length,←eds] at de;walk_at "r";refine⟨pg,_,_,_,_,rfl,S2 _ _ h1,T.Z8u,T.Z8A,rfl,?_⟩;walk_at "r";refine⟨pg,sn,dl,D,g,ds,_,rfl,PA.same S2,⟨es',hDz,de.1,de.2⟩,srt,λpg' dl' H5 hdl' s5 pa=>?_⟩;walk_at "r";have S5:=S2.trans s5;refine⟨pg',sn,dl',_,0,nm,hm,r,m,rfl,pa,eg,run,λH6 s6=>?_⟩;walk_at "r";exact k pg' dl' H6 (S2.free hdl') (S5.trans s6) (pa.same s6)
theorem Z0K (T:Txt K mg A)(TD:DictF w K A.Z8y (Zs A)):FnOk P w K mg base CX0 7 A.Zab A.Z9W ["page","number","day"] (Z5R A):=by
 have Z9h:=@Xu P w K mg base A T;have Z93:=@Xe P w K mg base A T TD;have Zcp:=@JU P w K mg base A T;have ZcY:=@Z08 P w K mg base A T;refine T.Za6.ok Z9E (λvs H Q E h=>?_) (λcdv A' outer s H vs Q E hr h=>?_)
 ·obtain⟨pg,sn,dl,g,n,day,ds,rfl,_⟩:=h;rfl
 ·obtain⟨pg,sn,dl,g,n,day,ds,rfl,PA,h900,hin,hday,eds,srt,⟨nm,hm,r,m,eg,run⟩,k⟩:=h;obtain⟨dp,mt,ct,kvs,h1,h3,h4,h5⟩:=PA.at';obtain⟨es,f1,f2,f3⟩:=PA.hd;refine⟨_,(Z7 (Zh (Za Zcp (hr.mono (by decide)) rfl T.ZbP T.Zay.kp T.Zci .nil Z9 (Z0 (pv 0) (Z0 (pv 1) Z4))))
   (Z7 (Zh (Za ZcY (hr.mono (by decide)) rfl T.ZcN T.ZaX.kp T.ZcS .nil Z9 (Z0 (pv 2) Z4)))
   (Z7 (Z71 (N:=["entry","number","day"]) (fr:=[none,some 1,some 2]) rfl (J3 (osc:=Z3 ZN) (ON:=Z16) (by decide +kernel) rfl rfl) (piL (K:=K) rfl (Zd (pv 0) rfl)) (λ_ _ _ _=>(Zu (i:=0) (show List.Nodup (["entry","number","day"]:List Str) by decide +kernel) rfl (Or.inl rfl))) (λ_ _ _ _=>(Z2K (Zk Y9 (Zg (ixT (K:=K) rfl) (pv 0) Z5 (λ_ _=>rfl)) (pv 1) (Zp _)) (YN (Z0 (Zg (ixT (K:=K) rfl) (pv 0) Z5 (λ_ _=>rfl)) (Z0 (pv 2) (Z0 (Zg (ixT (K:=K) rfl) (pv 0) Z5 (λ_ _=>rfl)) Z4)))) (pv 0))) (Zu (i:=3) Z9E.nd rfl (Or.inl rfl)))
   (Z7 (Zq (i:=4) Z9E.nd rfl (Or.inl rfl) (Za Z9h (hr.mono (by decide)) rfl T.Z9H T.Z9g.kp T.Z9R .nil Z9 (Z0 (pv 0) (Z0 (pv 3) (Z0 (Zd (pv 0) rfl) Z4)))))
   (Z7 (Zh (Za Z93 (hr.mono (by decide)) rfl T.Z9l T.Z96.kp T.Z9k .nil Z9 (Z0 (pv 4) (Z0 (YL (i:=0) rfl T.Zc3) Z4))))
   (Z8 (Zj (pv 4)))))))),?_⟩
  walk_at "r";refine⟨pg,sn,dl,g,n,rfl,PA,h900,hin,λH1 s1=>?_⟩;walk_at "r";refine⟨day,rfl,hday,?_⟩;walk_at "r";refine⟨_,rfl,pg,_,_,_,_,rfl,s1 _ _ h1,T.Z8u,T.Z8x,rfl,dl,rfl,⟨_,SqL.of (s1 _ _ f1)⟩,λD hD=>?_⟩;refine Z1Q g.deeds.length (λi ys τ H2=>Same H1 H2∧H2 D=some (.lst ys)∧(∃ es',ys=es'.map V.ref∧DlE H2 es' ((g.deeds.take i).map λd=>if d.1=n then (d.1,day,d.2.2) else d))∧∃ u,τ=[u,some (.int n),some (.int day)]) ⟨Same.new hD _,Z1,⟨[],rfl,rfl,λi d z=>by simp at z⟩,none,rfl⟩ (λi ys τ H2 _ q=>q.2.1) ?_ ?_
  ·rintro i ys τ H2 hi ⟨sm,hDz,⟨es',rfl,de⟩,u,rfl⟩;obtain⟨e,dd,a1,a2,a3⟩:=f3 i _ (List.getElem?_eq_getElem hi);have S2:=s1.trans sm;have lf:es'.length≤i:=by
    rw[de.1,List.length_map,List.length_take];omega
   refine⟨⟨_,.ref e,SqL.of (S2 _ _ f1),by rw[List.getElem?_map,a1];rfl⟩,ZB (by rw[List.length_map];omega),?_⟩;rintro x' H3 ⟨rfl,hx⟩;obtain rfl:x'=V.ref e:=by
    have:=hx _ (SqL.of (S2 _ _ f1));rw[List.getElem?_map,a1] at this;exact (Option.some.inj this).symm
   have et:g.deeds.take (i + 1)=g.deeds.take i++[g.deeds[i]]:=by rw[List.take_succ,List.getElem?_eq_getElem hi];rfl
   have ea2:=S2 _ _ a2;walk_at "r";refine⟨e,_,0,_,rfl,rfl,SqT.of ea2,rfl,?_⟩;walk_at "r"
   by_cases hn:(g.deeds[i]).1=n
   ·refine ZJ (decide_eq_true hn) ?_;walk_at "r";refine⟨e,_,0,_,rfl,rfl,SqT.of ea2,rfl,?_⟩;walk_at "r";refine⟨e,_,2,_,rfl,rfl,SqT.of ea2,rfl,?_⟩;walk_at "r";refine⟨by show 3≤sizeLine;decide,λtp htp=>?_⟩;have s3:=Same.new htp (HO.tup [.int (g.deeds[i]).1,.int day,.ref dd]);have hD3:=s3 _ _ hDz;refine⟨hD3,XN (sm.trans s3) hD,Z1,⟨es'++[tp],by rw[List.map_append];rfl,?_⟩,_,rfl⟩;rw[et,List.map_append,List.map_cons,List.map_nil,if_pos hn];exact ((de.same s3).snoc (d:=((g.deeds[i]).1,day,(g.deeds[i]).2.2)) Z1 ((a3.same S2).same s3)).put hD3
   ·refine Zo (λz=>hn (of_decide_eq_true z)) ?_;walk_at "r";refine⟨hDz,XN sm hD,Z1,⟨es'++[e],by rw[List.map_append];rfl,?_⟩,_,rfl⟩;rw[et,List.map_append,List.map_cons,List.map_nil,if_neg hn];exact (de.snoc ea2 (a3.same S2)).put hDz
  ·rintro ys τ H2 ⟨sm,hDz,⟨es',rfl,de⟩,u,rfl⟩;have S2:=s1.trans sm;refine⟨⟨_,SqL.of (S2 _ _ f1),by rw[List.length_map];omega⟩,?_⟩;rw[List.take_length,←eds] at de;walk_at "r";refine⟨pg,_,_,_,_,rfl,S2 _ _ h1,T.Z8u,T.Z8A,rfl,?_⟩;walk_at "r";refine⟨pg,sn,dl,D,g,ds,_,rfl,PA.same S2,⟨es',hDz,de.1,de.2⟩,srt,λpg' dl' H5 hdl' s5 pa=>?_⟩;walk_at "r";have S5:=S2.trans s5;refine⟨pg',sn,dl',_,0,nm,hm,r,m,rfl,pa,eg,run,λH6 s6=>?_⟩;walk_at "r";exact k pg' dl' H6 (S2.free hdl') (S5.trans s6) (pa.same s6)
end
noncomputable def JX (b c:Addr)(H H':Hp):Prop:=∀ d o,H d=some o→d≠b→d≠c→H' d=some o
noncomputable def Jl (b c e:Addr)(H H':Hp):Prop:=∀ d o,H d=some o→d≠b→d≠c→d≠e→H' d=some o
noncomputable abbrev Z0F (pg pa fu:Addr):List (Str×V):=[("page",.ref pg),("past",.ref pa),("future",.ref fu)]
structure BookS (A:Ad)(H:Hp)(bk pa fu pg:Addr)(ps fs:List Addr):Prop where
 at':∃ dx,H bk=some (.ins A.Z8s dx (Z0F pg pa fu))
 hp:H pa=some (.lst (ps.map V.ref))
 hf:H fu=some (.lst (fs.map V.ref))
theorem BookS.same {A:Ad}{H H':Hp}{bk pa fu pg:Addr}{ps fs:List Addr}(h:BookS A H bk pa fu pg ps fs)(s:Same H H'):BookS A H' bk pa fu pg ps fs:=
 let ⟨dx,e⟩:=h.at';⟨⟨dx,s _ _ e⟩,s _ _ h.hp,s _ _ h.hf⟩
noncomputable def Z7z (A:Ad):Sp:=λvs H Q _=>∃ (bk pa fu pg pg':Addr) (ps fs:List Addr),vs=[.ref bk,.ref pg']∧BookS A H bk pa fu pg ps fs∧ps.length≤900∧∀ fu' H',H fu'=none→BookS A H' bk pa fu' pg' (ps++[pg]) []→JX bk pa H H'→Q .non H'
noncomputable def Z4M (A:Ad):Sp:=λvs H Q E=>∃ (bk pa fu pg:Addr) (ps fs:List Addr),vs=[.ref bk]∧BookS A H bk pa fu pg ps fs∧fs.length≤900∧pa≠fu∧(ps=[]→E (.ref A.Z8Q) none H)∧
 ∀ ps0 p,ps=ps0++[p]→∀ H',BookS A H' bk pa fu p ps0 (fs++[pg])→Jl bk pa fu H H'→Q .non H'
noncomputable def Z4H (A:Ad):Sp:=λvs H Q E=>∃ (bk pa fu pg:Addr) (ps fs:List Addr),vs=[.ref bk]∧BookS A H bk pa fu pg ps fs∧ps.length≤900∧pa≠fu∧(fs=[]→E (.ref A.Z8Q) none H)∧
 ∀ fs0 p,fs=fs0++[p]→∀ H',BookS A H' bk pa fu p (ps++[pg]) fs0→Jl bk pa fu H H'→Q .non H'
noncomputable def Turned (A:Ad)(H:Hp)(bk pa pg sn dl:Addr)(ps:List Addr)(g':Pg)(Q:VK)(v:V):Prop:=∀ (H1:Hp) (pg' sn' dl':Addr),Same H H1→(sn'=sn∨H sn'=none)→(dl'=dl∨H dl'=none)→PgAt A H1 pg' sn' dl' g'→∀ fu' H',H1 fu'=none→BookS A H' bk pa fu' pg' (ps++[pg]) []→JX bk pa H1 H'→Q v H'
theorem Turned.same {A:Ad}{H H0:Hp}{bk pa pg sn dl:Addr}{ps:List Addr}{g':Pg}{Q:VK}{v:V}(h:Turned A H bk pa pg sn dl ps g' Q v)(s:Same H H0):Turned A H0 bk pa pg sn dl ps g' Q v:=
 λH1 pg' sn' dl' s1 h1 h2 PA fu' H' hf B kp=>h H1 pg' sn' dl' (s.trans s1) (h1.imp_right λz=>s.free z) (h2.imp_right λz=>s.free z) PA fu' H' hf B kp
noncomputable def Z7h (A:Ad):Sp:=λvs H Q _=>∃ (bk pa fu pg sn dl:Addr) (ps fs:List Addr) (g:Pg) (z:Str),vs=[.ref bk,.str z]∧BookS A H bk pa fu pg ps fs∧ps.length≤900∧PgAt A H pg sn dl g∧z.cps.size≤1000∧g.sides.length < 6∧YY z=true∧¬ z∈g.sides∧Turned A H bk pa pg sn dl ps { g with sides:=g.sides++[z] } Q .non
noncomputable def Z85 (A:Ad):Sp:=λvs H Q _=>∃ (bk pa fu pg sn dl:Addr) (ps fs:List Addr) (g:Pg) (z y:Str) (r:Int),vs=[.ref bk,.str z,.str y,.int r]∧BookS A H bk pa fu pg ps fs∧ps.length≤900∧PgAt A H pg sn dl g∧z.cps.size≤1000∧g.men.length < 40∧YY z=true∧¬ z∈g.men.map (·.1)∧y∈g.sides∧(0≤r∧r < 6)∧Turned A H bk pa pg sn dl ps { g with men:=g.men++[(z,y,r)] } Q .non
noncomputable def Z5N (A:Ad):Sp:=λvs H Q _=>∃ (bk pa fu pg sn dl:Addr) (ps fs:List Addr) (g:Pg) (n:Int) (ds:List (Int×Int×Deed)),vs=[.ref bk,.int n]∧BookS A H bk pa fu pg ps fs∧ps.length≤900∧PgAt A H pg sn dl g∧g.deeds.length≤900∧n∈g.deeds.map (·.1)∧ds=g.deeds.filter (λd=>!decide (d.1=n))∧SortedD ds∧RunG g ds∧Turned A H bk pa pg sn dl ps { g with deeds:=ds } Q .non
noncomputable def Z5t (A:Ad):Sp:=λvs H Q _=>∃ (bk pa fu pg sn dl:Addr) (ps fs:List Addr) (g:Pg) (n day:Int) (ds:List (Int×Int×Deed)),vs=[.ref bk,.int n,.int day]∧BookS A H bk pa fu pg ps fs∧ps.length≤900∧PgAt A H pg sn dl g∧g.deeds.length≤900∧n∈g.deeds.map (·.1)∧(0≤day∧day≤1000000)∧ds=g.deeds.map (λd=>if d.1=n then (d.1,day,d.2.2) else d)∧SortedD ds∧RunG g ds∧Turned A H bk pa pg sn dl ps { g with deeds:=ds } Q .non
noncomputable def TellK (A:Ad)(H:Hp)(bk:Addr)(day:Int)(d:Deed)(Q:VK):Prop:=∃ (pa fu pg sn dl:Addr) (ps fs:List Addr) (g:Pg),BookS A H bk pa fu pg ps fs∧ps.length≤900∧PgAt A H pg sn dl g∧(0≤day∧day≤1000000)∧okN g d∧SortedD (g.deeds++[(g.next,day,d)])∧RunG g (g.deeds++[(g.next,day,d)])∧Turned A H bk pa pg sn dl ps (Z4d g day d) Q (.int g.next)
theorem TellK.same {A:Ad}{H H1:Hp}{bk:Addr}{day:Int}{d:Deed}{Q:VK}(h:TellK A H bk day d Q)(s:Same H H1):TellK A H1 bk day d Q:=by
 obtain⟨pa,fu,pg,sn,dl,ps,fs,g,B,a,PA,b,c,e,f,k⟩:=h;exact⟨pa,fu,pg,sn,dl,ps,fs,g,B.same s,a,PA.same s,b,c,e,f,k.same s⟩
theorem TellK.bk {A:Ad}{H:Hp}{bk:Addr}{day:Int}{d:Deed}{Q:VK}(h:TellK A H bk day d Q):∃ dx pg pa fu,H bk=some (.ins A.Z8s dx (Z0F pg pa fu)):=by
 obtain⟨pa,fu,pg,sn,dl,ps,fs,g,B,_⟩:=h;obtain⟨dx,e⟩:=B.at';exact⟨dx,_,_,_,e⟩
noncomputable def Z7C (A:Ad):Sp:=λvs H Q _=>∃ (bk dd:Addr) (day:Int) (d:Deed),vs=[.ref bk,.int day,.ref dd]∧DeedAt H dd d∧TellK A H bk day d Q
noncomputable def Z6Y (A:Ad):Sp:=λvs H Q _=>∃ (bk:Addr) (day:Int) (m s:Str),vs=[.ref bk,.int day,.str m,.str s]∧TellK A H bk day (.take m s) Q
noncomputable def Z77 (A:Ad):Sp:=λvs H Q _=>∃ (bk:Addr) (day:Int) (m:Str),vs=[.ref bk,.int day,.str m]∧TellK A H bk day (.word m) Q
noncomputable def Z74 (A:Ad):Sp:=λvs H Q _=>∃ (bk:Addr) (day:Int) (m:Str),vs=[.ref bk,.int day,.str m]∧TellK A H bk day (.flee m) Q
noncomputable def Z4a (A:Ad):Sp:=λvs H Q _=>∃ (bk dx:Addr),vs=[.ref bk]∧H bk=some (.ins A.Z8s dx [])∧∀ (pa fu pg sn dl:Addr) (H1 H':Hp),Same H H1→PgAt A H1 pg sn dl ⟨[],[],[],1⟩→H sn=none→H dl=none→H1 pa=none→H1 fu=none→pa≠fu→BookS A H' bk pa fu pg [] []→(∀ d o,H1 d=some o→d≠bk→H' d=some o)→Q .non H'
section
variable {P:Program}{w:World}{K:W.Frag}{mg:Str→Option Value}{base:Heap}{A:Ad}
theorem Y8 (T:Txt K mg A):FnOk P w K mg base CX0 1 A.Z9j A.Z9M ["self","page"] (Z7z A):=by
 refine T.Z8N.ok Z0E (λvs H Q E h=>?_) (λcdv A' outer s H vs Q E hr h=>?_)
 ·obtain⟨bk,pa,fu,pg,pg',ps,fs,rfl,_⟩:=h;rfl
 ·obtain⟨bk,pa,fu,pg,pg',ps,fs,rfl,⟨⟨dx,h1⟩,h2,h3⟩,hn,k⟩:=h;have nbp:bk≠pa:=Zi h1 h2 (by simp);refine⟨_,(Z7 (Zh (Jx PySem.F.plainAttrs_list PySem.F.slot_list_append PySem.F.type_list_append Ya (Zd (pv 0) rfl) (Z0 (Zd (pv 0) rfl) Z4)))
   (Z7 (ZI (pv 0) (Y0 Z4) rfl)
   (Z8 (ZI (pv 0) (pv 1) rfl)))),?_⟩
  walk_at "r";refine⟨bk,_,_,_,_,rfl,h1,T.Z8t,T.Z9a,rfl,?_⟩;refine⟨.inl ⟨rfl,_,SqL.of h2⟩,?_⟩;walk_at "r";refine⟨bk,_,_,_,_,rfl,h1,T.Z8t,T.Z8w,rfl,?_⟩;walk_at "r";refine XH h2 (ZB (by rw[List.length_map];omega)) ?_;walk_at "r";refine⟨by show 0≤sizeLine;decide,λfu' hfu=>?_⟩;walk_at "r";have k1:JX bk pa H (upd H pa (.lst (ps.map V.ref++[.ref pg]))):=λd o e _ ne=>by rw[Z2 ne];exact e
  have hfu0:H fu'=none:=by
   have:fu'≠pa:=λz=>by rw[z,Z1] at hfu;cases hfu
   rw[Z2 this] at hfu;exact hfu
  have e1:(upd (upd H pa (.lst (ps.map V.ref++[.ref pg]))) fu' (.lst [])) bk=some (.ins A.Z8s dx (Z0F pg pa fu)):=Same.new hfu _ _ _ (by rw[Z2 nbp];exact h1);refine⟨bk,_,dx,_,rfl,e1,T.Z8t,T.Z8W,(show 3 < 1000 by decide),?_⟩;walk_at "r";refine⟨bk,_,dx,_,rfl,Z1,T.Z8t,T.Z8w,(show 3 < 1000 by decide),?_⟩;walk_at "r";rw[ZU];have nbf:bk≠fu':=Z6 h1 hfu0;refine k fu' _ hfu0 ⟨⟨dx,Z1⟩,?_,?_⟩ λd o e nb np=>?_
  ·rw[Z2 (Ne.symm nbp),List.map_append];exact Same.new hfu _ _ _ Z1
  ·rw[Z2 (Ne.symm nbf),Z1];rfl
  ·rw[Z2 nb];exact Same.new hfu _ _ _ (k1 d o e nb np)
theorem Z27 (T:Txt K mg A):FnOk P w K mg base (CX1 P w) 1 A.Zax A.Zb3 ["self"] (Z4M A):=by
 refine T.Zct.okX Z2G (λvs H Q E h=>?_) (λcdv A' outer s H vs Q E hr h=>?_)
 ·obtain⟨bk,pa,fu,pg,ps,fs,rfl,_⟩:=h;rfl
 ·obtain⟨bk,pa,fu,pg,ps,fs,rfl,⟨⟨dx,h1⟩,h2,h3⟩,hn,npf,k1,k2⟩:=h;have nbp:bk≠pa:=Zi h1 h2 (by simp);have nbf:bk≠fu:=Zi h1 h3 (by simp);refine⟨_,(Z7 (Zr (Xd (Z0d (Zd (pv 0) rfl) (λ_=>rfl))) (Z8 (Z2I Z6k rfl rfl T.ZcG T.Za5 (Z0 Zw Z4))) Zm)
   (Z7 (Zh (Jx PySem.F.plainAttrs_list PySem.F.slot_list_append PySem.F.type_list_append Ya (Zd (pv 0) rfl) (Z0 (Zd (pv 0) rfl) Z4)))
   (Z8 (ZI (pv 0) (Z4w PySem.F.plainAttrs_list PySem.F.slot_list_pop PySem.F.type_list_pop Z4I (Zd (pv 0) rfl)) rfl)))),?_⟩
  walk_at "r";refine⟨bk,_,_,_,_,rfl,h1,T.Z8t,T.Z9a,rfl,?_⟩;refine⟨_,.inl ⟨_,SqL.of h2,rfl⟩,?_⟩
  by_cases he:ps=[]
  ·subst he;refine ZJ rfl ?_;walk_at "r";exact⟨by decide,k1 rfl⟩
  ·obtain⟨ps0,p,rfl⟩:∃ ps0 p,ps=ps0++[p]:=⟨ps.dropLast,ps.getLast he,(List.dropLast_concat_getLast he).symm⟩;refine Zo (by simp) ?_;walk_at "r";refine⟨bk,_,_,_,_,rfl,h1,T.Z8t,T.Z8W,rfl,?_⟩;refine⟨.inl ⟨rfl,_,SqL.of h3⟩,?_⟩;walk_at "r";refine⟨bk,_,_,_,_,rfl,h1,T.Z8t,T.Z8w,rfl,?_⟩;walk_at "r";refine XH h3 (ZB (by rw[List.length_map];omega)) ?_;walk_at "r";refine⟨bk,_,_,_,_,rfl,by rw[Z2 nbf];exact h1,T.Z8t,T.Z9a,rfl,?_⟩;have e2:upd H fu (.lst (fs.map V.ref++[.ref pg])) pa=some (.lst ((ps0++[p]).map V.ref)):=by rw[Z2 npf];exact h2
   refine⟨.inl ⟨rfl,_,SqL.of e2⟩,?_⟩;walk_at "r";refine⟨pa,_,.ref p,rfl,rfl,e2,by simp,?_⟩;have e3:upd (upd H fu (.lst (fs.map V.ref++[.ref pg]))) pa (.lst ((ps0++[p]).map V.ref).dropLast) bk=some (.ins A.Z8s dx (Z0F pg pa fu)):=by rw[Z2 nbp,Z2 nbf];exact h1
   walk_at "r";refine⟨bk,_,dx,_,rfl,e3,T.Z8t,T.Z8w,(show 3 < 1000 by decide),?_⟩;walk_at "r";refine k2 ps0 p rfl _ ⟨⟨dx,Z1⟩,?_,?_⟩ λd o e n1 n2 n3=>?_
   ·rw[Z2 (Ne.symm nbp),Z1];simp
   ·rw[Z2 (Ne.symm nbf),Z2 (Ne.symm npf),Z1,List.map_append];rfl
   ·rw[Z2 n1,Z2 n2,Z2 n3];exact e
theorem Z2O (T:Txt K mg A):FnOk P w K mg base (CX1 P w) 1 A.Zaq A.Zby ["self"] (Z4H A):=by
 refine T.Zch.okX Z2g (λvs H Q E h=>?_) (λcdv A' outer s H vs Q E hr h=>?_)
 ·obtain⟨bk,pa,fu,pg,ps,fs,rfl,_⟩:=h;rfl
 ·obtain⟨bk,pa,fu,pg,ps,fs,rfl,⟨⟨dx,h1⟩,h2,h3⟩,hn,npf,k1,k2⟩:=h;have nbp:bk≠pa:=Zi h1 h2 (by simp);have nbf:bk≠fu:=Zi h1 h3 (by simp);refine⟨_,(Z7 (Zr (Xd (Z0d (Zd (pv 0) rfl) (λ_=>rfl))) (Z8 (Z2I Z6k rfl rfl T.ZcG T.Za5 (Z0 Zw Z4))) Zm)
   (Z7 (Zh (Jx PySem.F.plainAttrs_list PySem.F.slot_list_append PySem.F.type_list_append Ya (Zd (pv 0) rfl) (Z0 (Zd (pv 0) rfl) Z4)))
   (Z8 (ZI (pv 0) (Z4w PySem.F.plainAttrs_list PySem.F.slot_list_pop PySem.F.type_list_pop Z4I (Zd (pv 0) rfl)) rfl)))),?_⟩
  walk_at "r";refine⟨bk,_,_,_,_,rfl,h1,T.Z8t,T.Z8W,rfl,?_⟩;refine⟨_,.inl ⟨_,SqL.of h3,rfl⟩,?_⟩
  by_cases he:fs=[]
  ·subst he;refine ZJ rfl ?_;walk_at "r";exact⟨by decide,k1 rfl⟩
  ·obtain⟨fs0,p,rfl⟩:∃ fs0 p,fs=fs0++[p]:=⟨fs.dropLast,fs.getLast he,(List.dropLast_concat_getLast he).symm⟩;refine Zo (by simp) ?_;walk_at "r";refine⟨bk,_,_,_,_,rfl,h1,T.Z8t,T.Z9a,rfl,?_⟩;refine⟨.inl ⟨rfl,_,SqL.of h2⟩,?_⟩;walk_at "r";refine⟨bk,_,_,_,_,rfl,h1,T.Z8t,T.Z8w,rfl,?_⟩;walk_at "r";refine XH h2 (ZB (by rw[List.length_map];omega)) ?_;walk_at "r";refine⟨bk,_,_,_,_,rfl,by rw[Z2 nbp];exact h1,T.Z8t,T.Z8W,rfl,?_⟩;have e2:upd H pa (.lst (ps.map V.ref++[.ref pg])) fu=some (.lst ((fs0++[p]).map V.ref)):=by rw[Z2 (Ne.symm npf)];exact h3
   refine⟨.inl ⟨rfl,_,SqL.of e2⟩,?_⟩;walk_at "r";refine⟨fu,_,.ref p,rfl,rfl,e2,by simp,?_⟩;have e3:upd (upd H pa (.lst (ps.map V.ref++[.ref pg]))) fu (.lst ((fs0++[p]).map V.ref).dropLast) bk=some (.ins A.Z8s dx (Z0F pg pa fu)):=by rw[Z2 nbf,Z2 nbp];exact h1
   walk_at "r";refine⟨bk,_,dx,_,rfl,e3,T.Z8t,T.Z8w,(show 3 < 1000 by decide),?_⟩;walk_at "r";refine k2 fs0 p rfl _ ⟨⟨dx,Z1⟩,?_,?_⟩ λd o e n1 n2 n3=>?_
   ·rw[Z2 (Ne.symm nbp),Z2 npf,Z1,List.map_append];rfl
   ·rw[Z2 (Ne.symm nbf),Z1];simp
   ·rw[Z2 n1,Z2 n3,Z2 n2];exact e
theorem Z2s (T:Txt K mg A):FnOk P w K mg base CX0 4 A.Z9s A.Zbf ["self"] (Z4a A):=by
 have Zf3:=@Z1I P w K mg base A T;refine T.Ze4.ok Z2F (λvs H Q E h=>?_) (λcdv A' outer s H vs Q E hr h=>?_)
 ·obtain⟨bk,dx,rfl,_⟩:=h;rfl
 ·obtain⟨bk,dx,rfl,hb,k⟩:=h;refine⟨_,(Z7 (ZI (pv 0) (Z5M Zf3 (hr.mono (by decide)) rfl T.Zdd T.Zbs.kp T.Zdv .nil Z9) rfl)
   (Z7 (ZI (pv 0) (Y0 Z4) rfl)
   (Z8 (ZI (pv 0) (Y0 Z4) rfl)))),?_⟩
  walk_at "r";refine⟨rfl,λpg sn dl H1 hsn hdl s1 PA=>?_⟩;walk_at "r";refine⟨bk,_,dx,_,rfl,s1 _ _ hb,T.Z8t,T.Z8w,(show 0 < 1000 by decide),?_⟩;walk_at "r";refine⟨by show 0≤sizeLine;decide,λpa hpa=>?_⟩;walk_at "r";have npb:bk≠pa:=Z6 Z1 hpa;have hpa1:H1 pa=none:=by rw[Z2 (Ne.symm npb)] at hpa;exact hpa
  have e1:(upd (upd H1 bk (.ins A.Z8s dx (ZK "page" (.ref pg) []))) pa (.lst [])) bk=some (.ins A.Z8s dx (ZK "page" (.ref pg) [])):=by rw[Z2 npb,Z1]
  refine⟨bk,_,dx,_,rfl,e1,T.Z8t,T.Z9a,(show 1 < 1000 by decide),?_⟩;walk_at "r";refine⟨by show 0≤sizeLine;decide,λfu hfu=>?_⟩;walk_at "r";have nfb:bk≠fu:=Z6 Z1 hfu;have e2:(upd (upd (upd (upd H1 bk (.ins A.Z8s dx (ZK "page" (.ref pg) []))) pa (.lst [])) bk (.ins A.Z8s dx (ZK "past" (.ref pa) (ZK "page" (.ref pg) [])))) fu (.lst [])) bk=some (.ins A.Z8s dx (ZK "past" (.ref pa) (ZK "page" (.ref pg) []))):=by rw[Z2 nfb,Z1]
  refine⟨bk,_,dx,_,rfl,e2,T.Z8t,T.Z8W,(show 2 < 1000 by decide),?_⟩;walk_at "r";have epa0:(upd (upd (upd H1 bk (.ins A.Z8s dx (ZK "page" (.ref pg) []))) pa (.lst [])) bk (.ins A.Z8s dx (ZK "past" (.ref pa) (ZK "page" (.ref pg) [])))) pa=some (.lst []):=by rw[Z2 (Ne.symm npb),Z1]
  have npf:pa≠fu:=Z6 epa0 hfu;have hfu1:H1 fu=none:=by
   rw[Z2 (Ne.symm nfb),Z2 (Ne.symm npf),Z2 (Ne.symm nfb)] at hfu;exact hfu
  refine k pa fu pg sn dl H1 _ s1 PA hsn hdl hpa1 hfu1 npf ⟨⟨dx,Z1⟩,?_,?_⟩ λd o e nb=>?_
  ·rw[Z2 (Ne.symm npb),Z2 npf];exact epa0
  ·rw[Z2 (Ne.symm nfb),Z1];rfl
  ·rw[Z2 nb,Z2 (Z6 e hfu1),Z2 nb,Z2 (Z6 e hpa1),Z2 nb];exact e
theorem Z2a (T:Txt K mg A):FnOk P w K mg base CX0 5 A.Zat A.Zbq ["self","name"] (Z7h A):=by
 have Z8E:=@Y8 P w K mg base A T;have Zfq:=@Z2k P w K mg base A T;refine T.Zas.ok Z2m (λvs H Q E h=>?_) (λcdv A' outer s H vs Q E hr h=>?_)
 ·obtain⟨bk,pa,fu,pg,sn,dl,ps,fs,g,z,rfl,_⟩:=h;rfl
 ·obtain⟨bk,pa,fu,pg,sn,dl,ps,fs,g,z,rfl,B,hn,PA,hz,h6,gz,nz,k⟩:=h;obtain⟨dx,h1⟩:=B.at';refine⟨_,(Z8 (Zh (Zy (pv 0) T.Z8t ⟨T.Z8T,T.Z8P,T.Z8N.kp⟩ Z8E (hr.mono (by decide)) T.Z8R .nil Z9 (Z0 (Za Zfq (hr.mono (by decide)) rfl T.ZdP T.Zcc.kp T.ZdR .nil Z9 (Z0 (Zd (pv 0) rfl) (Z0 (pv 1) Z4))) Z4)))),?_⟩;walk_at "r";refine⟨bk,dx,_,rfl,h1,rfl,?_⟩;walk_at "r";refine⟨bk,_,_,_,_,rfl,h1,T.Z8t,T.Z8w,rfl,?_⟩;walk_at "r";refine⟨pg,sn,dl,g,z,rfl,hz,h6,gz,nz,PA,λpg' sn' H1 hsn' s1 PA'=>?_⟩;exact⟨bk,pa,fu,pg,pg',ps,fs,rfl,B.same s1,hn,λfu' H' hf B' kp=>k H1 pg' sn' dl s1 (.inr hsn') (.inl rfl) PA' fu' H' hf B' kp⟩
theorem Z37 (T:Txt K mg A):FnOk P w K mg base CX0 5 A.ZaZ A.ZbR ["self","name","side","rank"] (Z85 A):=by
 have Z8E:=@Y8 P w K mg base A T;have ZfJ:=@Z3a P w K mg base A T;refine T.ZcZ.ok Z3f (λvs H Q E h=>?_) (λcdv A' outer s H vs Q E hr h=>?_)
 ·obtain⟨bk,pa,fu,pg,sn,dl,ps,fs,g,z,y,r,rfl,_⟩:=h;rfl
 ·obtain⟨bk,pa,fu,pg,sn,dl,ps,fs,g,z,y,r,rfl,B,hn,PA,hz,h40,gz,nz,hy,hrk,k⟩:=h;obtain⟨dx,h1⟩:=B.at';refine⟨_,(Z8 (Zh (Zy (pv 0) T.Z8t ⟨T.Z8T,T.Z8P,T.Z8N.kp⟩ Z8E (hr.mono (by decide)) T.Z8R .nil Z9 (Z0 (Za ZfJ (hr.mono (by decide)) rfl T.Zez T.ZcQ.kp T.Zex .nil Z9 (Z0 (Zd (pv 0) rfl) (Z0 (pv 1) (Z0 (pv 2) (Z0 (pv 3) Z4))))) Z4)))),?_⟩;walk_at "r";refine⟨bk,dx,_,rfl,h1,rfl,?_⟩;walk_at "r";refine⟨bk,_,_,_,_,rfl,h1,T.Z8t,T.Z8w,rfl,?_⟩;walk_at "r";refine⟨pg,sn,dl,g,z,y,r,rfl,hz,h40,gz,nz,hy,hrk,PA,λpg' H1 s1 PA'=>?_⟩;exact⟨bk,pa,fu,pg,pg',ps,fs,rfl,B.same s1,hn,λfu' H' hf B' kp=>k H1 pg' sn dl s1 (.inl rfl) (.inl rfl) PA' fu' H' hf B' kp⟩
theorem Z1h (T:Txt K mg A)(TD:DictF w K A.Z8y (Zs A)):FnOk P w K mg base CX0 8 A.Z9t A.Za3 ["self","number"] (Z5N A):=by
 have Z8E:=@Y8 P w K mg base A T;have ZeF:=@Z0X P w K mg base A T TD;refine T.ZaI.ok Z1j (λvs H Q E h=>?_) (λcdv A' outer s H vs Q E hr h=>?_)
 ·obtain⟨bk,pa,fu,pg,sn,dl,ps,fs,g,n,ds,rfl,_⟩:=h;rfl
 ·obtain⟨bk,pa,fu,pg,sn,dl,ps,fs,g,n,ds,rfl,B,hn,PA,h900,hin,eds,srt,run,k⟩:=h;obtain⟨dx,h1⟩:=B.at';refine⟨_,(Z8 (Zh (Zy (pv 0) T.Z8t ⟨T.Z8T,T.Z8P,T.Z8N.kp⟩ Z8E (hr.mono (by decide)) T.Z8R .nil Z9 (Z0 (Za ZeF (hr.mono (by decide)) rfl T.Zcx T.Zaa.kp T.Zcw .nil Z9 (Z0 (Zd (pv 0) rfl) (Z0 (pv 1) Z4))) Z4)))),?_⟩;walk_at "r";refine⟨bk,dx,_,rfl,h1,rfl,?_⟩;walk_at "r";refine⟨bk,_,_,_,_,rfl,h1,T.Z8t,T.Z8w,rfl,?_⟩;walk_at "r";refine⟨pg,sn,dl,g,n,ds,rfl,PA,h900,hin,eds,srt,run,λpg' dl' H1 hdl' s1 PA'=>?_⟩;exact⟨bk,pa,fu,pg,pg',ps,fs,rfl,B.same s1,hn,λfu' H' hf B' kp=>k H1 pg' sn dl' s1 (.inl rfl) (.inr hdl') PA' fu' H' hf B' kp⟩
theorem Z0Z (T:Txt K mg A)(TD:DictF w K A.Z8y (Zs A)):FnOk P w K mg base CX0 8 A.Z9y A.Za7 ["self","number","day"] (Z5t A):=by
 have Z8E:=@Y8 P w K mg base A T;have ZeL:=@Z0K P w K mg base A T TD;refine T.ZaP.ok Z1c (λvs H Q E h=>?_) (λcdv A' outer s H vs Q E hr h=>?_)
 ·obtain⟨bk,pa,fu,pg,sn,dl,ps,fs,g,n,day,ds,rfl,_⟩:=h;rfl
 ·obtain⟨bk,pa,fu,pg,sn,dl,ps,fs,g,n,day,ds,rfl,B,hn,PA,h900,hin,hday,eds,srt,run,k⟩:=h;obtain⟨dx,h1⟩:=B.at';refine⟨_,(Z8 (Zh (Zy (pv 0) T.Z8t ⟨T.Z8T,T.Z8P,T.Z8N.kp⟩ Z8E (hr.mono (by decide)) T.Z8R .nil Z9 (Z0 (Za ZeL (hr.mono (by decide)) rfl T.ZcD T.Za6.kp T.ZcC .nil Z9 (Z0 (Zd (pv 0) rfl) (Z0 (pv 1) (Z0 (pv 2) Z4)))) Z4)))),?_⟩;walk_at "r";refine⟨bk,dx,_,rfl,h1,rfl,?_⟩;walk_at "r";refine⟨bk,_,_,_,_,rfl,h1,T.Z8t,T.Z8w,rfl,?_⟩;walk_at "r";refine⟨pg,sn,dl,g,n,day,ds,rfl,PA,h900,hin,hday,eds,srt,run,λpg' dl' H1 hdl' s1 PA'=>?_⟩;exact⟨bk,pa,fu,pg,pg',ps,fs,rfl,B.same s1,hn,λfu' H' hf B' kp=>k H1 pg' sn dl' s1 (.inl rfl) (.inr hdl') PA' fu' H' hf B' kp⟩
theorem XM (T:Txt K mg A)(TD:DictF w K A.Z8y (Zs A)):FnOk P w K mg base CX0 8 A.Zam A.Zb2 ["self","day","deed"] (Z7C A):=by
 have Z8E:=@Y8 P w K mg base A T;have Zfv:=@Z2E P w K mg base A T TD;refine T.Z9n.ok Zdu (λvs H Q E h=>?_) (λcdv A' outer s H vs Q E hr h=>?_)
 ·obtain⟨bk,dd,day,d,rfl,_⟩:=h;rfl
 ·obtain⟨bk,dd,day,d,rfl,hd,pa,fu,pg,sn,dl,ps,fs,g,B,hn,PA,hday,ok,srt,run,k⟩:=h;obtain⟨dx,h1⟩:=B.at';obtain⟨dp,mt,ct,kvs,p1,_⟩:=PA.at';refine⟨_,(Z7 (Zq (i:=3) Zdu.nd rfl (Or.inl rfl) (Zd (Zd (pv 0) rfl) rfl))
   (Z7 (Zh (Zy (pv 0) T.Z8t ⟨T.Z8T,T.Z8P,T.Z8N.kp⟩ Z8E (hr.mono (by decide)) T.Z8R .nil Z9 (Z0 (Za Zfv (hr.mono (by decide)) rfl T.ZdZ T.Zcq.kp T.Ze1 .nil Z9 (Z0 (Zd (pv 0) rfl) (Z0 (pv 3) (Z0 (pv 1) (Z0 (pv 2) Z4))))) Z4)))
   (Z8 (Zj (pv 3))))),?_⟩
  walk_at "r";refine⟨bk,_,_,_,_,rfl,h1,T.Z8t,T.Z8w,rfl,?_⟩;refine⟨pg,_,_,_,_,rfl,p1,T.Z8u,T.Z8A,rfl,?_⟩;walk_at "r";refine⟨bk,dx,_,rfl,h1,rfl,?_⟩;walk_at "r";refine⟨bk,_,_,_,_,rfl,h1,T.Z8t,T.Z8w,rfl,?_⟩;walk_at "r";refine⟨pg,sn,dl,dd,g,day,d,rfl,PA,hd,hday,ok,srt,run,λpg' dl' H1 hdl' s1 PA'=>?_⟩;refine⟨bk,pa,fu,pg,pg',ps,fs,rfl,B.same s1,hn,λfu' H' hf B' kp=>?_⟩;walk_at "r";exact k H1 pg' sn dl' s1 (.inl rfl) (.inr hdl') PA' fu' H' hf B' kp
theorem Z2A (T:Txt K mg A)(TD:DictF w K A.Z8y (Zs A)):FnOk P w K mg base CX0 9 A.Zap A.Zb7 ["self","day","man","side"] (Z6Y A):=by
 have Z9r:=@XM P w K mg base A T TD;refine T.Zc0.ok Z2W (λvs H Q E h=>?_) (λcdv A' outer s H vs Q E hr h=>?_)
 ·obtain⟨bk,day,m,sd,rfl,_⟩:=h;rfl
 ·obtain⟨bk,day,m,sd,rfl,tk⟩:=h;obtain⟨dx,pg,pa,fu,h1⟩:=tk.bk;refine⟨_,(Z8 (Zj (Zy (pv 0) T.Z8t ⟨T.Zak,T.Z9K,T.Z9n.kp⟩ Z9r (hr.mono (by decide)) T.Zal .nil Z9 (Z0 (pv 1) (Z0 (YN (Z0 Zw (Z0 (pv 2) (Z0 (pv 3) Z4)))) Z4))))),?_⟩;walk_at "r";refine⟨bk,dx,_,rfl,h1,rfl,?_⟩;walk_at "r";refine⟨by show 3≤sizeLine;decide,λtp htp=>?_⟩;have s1:=Same.new htp (HO.tup [.str "take",.str m,.str sd]);exact⟨bk,tp,day,.take m sd,rfl,Z1,tk.same s1⟩
theorem Z2L (T:Txt K mg A)(TD:DictF w K A.Z8y (Zs A)):FnOk P w K mg base CX0 9 A.Zau A.Zbg ["self","day","man"] (Z77 A):=by
 have Z9r:=@XM P w K mg base A T TD;refine T.Zcr.ok Z2q (λvs H Q E h=>?_) (λcdv A' outer s H vs Q E hr h=>?_)
 ·obtain⟨bk,day,m,rfl,_⟩:=h;rfl
 ·obtain⟨bk,day,m,rfl,tk⟩:=h;obtain⟨dx,pg,pa,fu,h1⟩:=tk.bk;refine⟨_,(Z8 (Zj (Zy (pv 0) T.Z8t ⟨T.Zak,T.Z9K,T.Z9n.kp⟩ Z9r (hr.mono (by decide)) T.Zal .nil Z9 (Z0 (pv 1) (Z0 (YN (Z0 Zw (Z0 (pv 2) Z4))) Z4))))),?_⟩;walk_at "r";refine⟨bk,dx,_,rfl,h1,rfl,?_⟩;walk_at "r";refine⟨by show 2≤sizeLine;decide,λtp htp=>?_⟩;have s1:=Same.new htp (HO.tup [.str "word",.str m]);exact⟨bk,tp,day,.word m,rfl,Z1,tk.same s1⟩
theorem Z2p (T:Txt K mg A)(TD:DictF w K A.Z8y (Zs A)):FnOk P w K mg base CX0 9 A.Zar A.Zbd ["self","day","man"] (Z74 A):=by
 have Z9r:=@XM P w K mg base A T TD;refine T.Zco.ok Z20 (λvs H Q E h=>?_) (λcdv A' outer s H vs Q E hr h=>?_)
 ·obtain⟨bk,day,m,rfl,_⟩:=h;rfl
 ·obtain⟨bk,day,m,rfl,tk⟩:=h;obtain⟨dx,pg,pa,fu,h1⟩:=tk.bk;refine⟨_,(Z8 (Zj (Zy (pv 0) T.Z8t ⟨T.Zak,T.Z9K,T.Z9n.kp⟩ Z9r (hr.mono (by decide)) T.Zal .nil Z9 (Z0 (pv 1) (Z0 (YN (Z0 Zw (Z0 (pv 2) Z4))) Z4))))),?_⟩;walk_at "r";refine⟨bk,dx,_,rfl,h1,rfl,?_⟩;walk_at "r";refine⟨by show 2≤sizeLine;decide,λtp htp=>?_⟩;have s1:=Same.new htp (HO.tup [.str "flee",.str m]);exact⟨bk,tp,day,.flee m,rfl,Z1,tk.same s1⟩
end
theorem StepM.dead {day:Int}{m m':Ms}{d:Deed}(h:StepM day m d m'):m'.dead=m.dead:=by cases h<;>rfl
theorem RunM.dead {nm:Str}{m m':Ms}{ds:List (Int×Int×Deed)}(h:RunM nm m ds m')(e:m.dead=false):m'.dead=false:=by
 induction h with
 | nil=>exact e
 | cons a b c _ ih=>exact ih (by rw[c.dead];exact e)
noncomputable def Z0H (g:Pg)(nm:Str)(day:Int)(m:Ms):Prop:=∃ hm r,g.men=[(nm,hm,r)]∧RunM nm ⟨hm,r,false,none⟩ g.deeds m∧∀ d∈g.deeds,d.2.1≤day
noncomputable def Z6K (A:Ad):Sp:=λvs H Q _=>∃ (bk pa fu pg sn dl:Addr) (ps fs:List Addr) (g:Pg),vs=[.ref bk]∧BookS A H bk pa fu pg ps fs∧PgAt A H pg sn dl g∧g.sides.length < 64∧∀ p,H p=none→Q (.ref p) (upd H p (.lst ((Xm g.sides).map V.str)))
noncomputable def Z70 (A:Ad):Sp:=λvs H Q _=>∃ (bk pa fu pg sn dl:Addr) (ps fs:List Addr) (g:Pg) (xs:List V),vs=[.ref bk]∧BookS A H bk pa fu pg ps fs∧PgAt A H pg sn dl g∧H dl=some (.lst xs)∧∀ p,H p=none→Q (.ref p) (upd H p (.lst xs))
noncomputable def Z3D (A:Ad):Sp:=λvs H Q _=>∃ (bk pa fu pg sn dl:Addr) (ps fs:List Addr) (g:Pg),vs=[.ref bk]∧BookS A H bk pa fu pg ps fs∧PgAt A H pg sn dl g∧Q (.int g.next) H
noncomputable def Z6U (A:Ad):Sp:=λvs H Q _=>∃ (bk pa fu pg sn dl:Addr) (ps fs:List Addr) (g:Pg) (nm:Str) (day:Int) (m:Ms),vs=[.ref bk,.str nm,.int day]∧BookS A H bk pa fu pg ps fs∧PgAt A H pg sn dl g∧Z0H g nm day m∧∀ a c H',Same H H'→ManAt A H' a c m→Q (.ref a) H'
noncomputable def Z5H (A:Ad):Sp:=λvs H Q _=>∃ (bk pa fu pg sn dl:Addr) (ps fs:List Addr) (g:Pg) (nm:Str) (day:Int) (m:Ms),vs=[.ref bk,.str nm,.int day]∧BookS A H bk pa fu pg ps fs∧PgAt A H pg sn dl g∧Z0H g nm day m∧∀ H',Same H H'→Q (.str (YI m)) H'
noncomputable def Z5X (A:Ad):Sp:=λvs H Q _=>∃ (bk pa fu pg sn dl:Addr) (ps fs:List Addr) (g:Pg) (nm:Str) (day:Int) (m:Ms),vs=[.ref bk,.str nm,.int day]∧BookS A H bk pa fu pg ps fs∧PgAt A H pg sn dl g∧Z0H g nm day m∧∀ p H',Same H H'→H p=none→H' p=some (.lst ((ZL m).map V.str))→Q (.ref p) H'
noncomputable def Z7X (A:Ad):Sp:=λvs H Q _=>∃ (bk pa fu pg sn dl:Addr) (ps fs:List Addr) (g:Pg) (nm:Str) (day:Int) (m:Ms) (xs:List V),vs=[.ref bk,.str nm,.int day]∧BookS A H bk pa fu pg ps fs∧PgAt A H pg sn dl g∧H dl=some (.lst xs)∧Z0H g nm day m∧
 ∀ p p1 p2 H',Same H H'→H p=none→H p1=none→H p2=none→H' p=some (.tup [.ref p1,.int g.next,.str (YI m),.ref p2])→H' p1=some (.lst xs)→H' p2=some (.lst ((ZL m).map V.str))→Q (.ref p) H'
noncomputable def Z7S (A:Ad):Sp:=λvs H Q _=>∃ (bk pa fu pg:Addr) (ps fs:List Addr) (wd:Str),vs=[.ref bk,.str wd]∧BookS A H bk pa fu pg ps fs∧ps.length≤900∧fs.length≤900∧pa≠fu∧
 ((wd="undo"∧(ps=[]→∀ H',Same H H'→Q (.bl false) H')∧∀ ps0 p,ps=ps0++[p]→∀ H',BookS A H' bk pa fu p ps0 (fs++[pg])→Jl bk pa fu H H'→Q (.bl true) H')∨
  (wd="redo"∧(fs=[]→∀ H',Same H H'→Q (.bl false) H')∧∀ fs0 p,fs=fs0++[p]→∀ H',BookS A H' bk pa fu p (ps++[pg]) fs0→Jl bk pa fu H H'→Q (.bl true) H'))
section
variable {P:Program}{w:World}{K:W.Frag}{mg:Str→Option Value}{base:Heap}{A:Ad}
theorem Z1K (T:Txt K mg A):FnOk P w K mg base CX0 1 A.Z9D A.ZaK ["self"] (Z6K A):=by
 refine T.Zbt.ok Z1J (λvs H Q E h=>?_) (λcdv A' outer s H vs Q E hr h=>?_)
 ·obtain⟨bk,pa,fu,pg,sn,dl,ps,fs,g,rfl,_⟩:=h;rfl
 ·obtain⟨bk,pa,fu,pg,sn,dl,ps,fs,g,rfl,B,PA,hl,k⟩:=h;obtain⟨dx,h1⟩:=B.at';obtain⟨dp,mt,ct,kvs,p1,_⟩:=PA.at';refine⟨_,(Z8 (Zj (ZA (Z0U (K:=K) rfl) rfl T.ZcP PyProof.Rows.boot_sorted (Z0 (Zd (Zd (pv 0) rfl) rfl) Z4)))),?_⟩;walk_at "r";refine⟨bk,_,_,_,_,rfl,h1,T.Z8t,T.Z8w,rfl,?_⟩;refine⟨pg,_,_,_,_,rfl,p1,T.Z8u,T.Z8C,rfl,?_⟩;walk_at "r";exact⟨sn,g.sides,rfl,SqL.of PA.hs,hl,k⟩
theorem JA (T:Txt K mg A):FnOk P w K mg base CX0 1 A.Z9J A.ZaU ["self"] (Z70 A):=by
 refine T.Z9I.ok Z1M (λvs H Q E h=>?_) (λcdv A' outer s H vs Q E hr h=>?_)
 ·obtain⟨bk,pa,fu,pg,sn,dl,ps,fs,g,xs,rfl,_⟩:=h;rfl
 ·obtain⟨bk,pa,fu,pg,sn,dl,ps,fs,g,xs,rfl,B,PA,hdl,k⟩:=h;obtain⟨dx,h1⟩:=B.at';obtain⟨dp,mt,ct,kvs,p1,_⟩:=PA.at';refine⟨_,(Z8 (Zj (XU (Z6E (K:=K) rfl) rfl T.ZeZ L2.boot_list (Z0 (Zd (Zd (pv 0) rfl) rfl) Z4)))),?_⟩;walk_at "r";refine⟨bk,_,_,_,_,rfl,h1,T.Z8t,T.Z8w,rfl,?_⟩;refine⟨pg,_,_,_,_,rfl,p1,T.Z8u,T.Z8x,rfl,?_⟩;walk_at "r";exact⟨dl,_,rfl,.inl (SqL.of hdl),k⟩
theorem Z0i (T:Txt K mg A):FnOk P w K mg base CX0 1 A.Z9e A.Z9z ["self"] (Z3D A):=by
 refine T.Z9Q.ok Z0k (λvs H Q E h=>?_) (λcdv A' outer s H vs Q E hr h=>?_)
 ·obtain⟨bk,pa,fu,pg,sn,dl,ps,fs,g,rfl,_⟩:=h;rfl
 ·obtain⟨bk,pa,fu,pg,sn,dl,ps,fs,g,rfl,B,PA,k⟩:=h;obtain⟨dx,h1⟩:=B.at';obtain⟨dp,mt,ct,kvs,p1,_⟩:=PA.at';refine⟨_,(Z8 (Zj (Zd (Zd (pv 0) rfl) rfl))),?_⟩;walk_at "r";refine⟨bk,_,_,_,_,rfl,h1,T.Z8t,T.Z8w,rfl,?_⟩;exact⟨pg,_,_,_,_,rfl,p1,T.Z8u,T.Z8A,rfl,k⟩
theorem Ji (T:Txt K mg A)(TD:DictF w K A.Z8y (Zs A)):FnOk P w K mg base CX0 7 A.Z9x A.Zaj ["self","man","day"] (Z6U A):=by
 have ZcU:=@Z05 P w K mg base A T;have Zfy:=@Z2b P w K mg base A T TD;refine T.Z9v.ok Z12 (λvs H Q E h=>?_) (λcdv A' outer s H vs Q E hr h=>?_)
 ·obtain⟨bk,pa,fu,pg,sn,dl,ps,fs,g,nm,day,m,rfl,_⟩:=h;rfl
 ·obtain⟨bk,pa,fu,pg,sn,dl,ps,fs,g,nm,day,m,rfl,B,PA,⟨hm,r,eg,run,hle⟩,k⟩:=h;obtain⟨dx,h1⟩:=B.at';have hu1:=Xq hr;refine⟨_,(Z7 (Zh (Za ZcU (hr.mono (by decide)) rfl T.ZcH T.ZaY.kp T.ZcX .nil Z9 (Z0 (Zd (pv 0) rfl) (Z0 (pv 1) Z4))))
   (Z8 (Zj (J4 hu1 (Zd (Za Zfy (hr.mono (by decide)) rfl T.Ze6 T.Zc7.kp T.ZdM .nil Z9 (Z0 (Zd (pv 0) rfl) (Z0 (pv 2) Z4))) rfl) (pv 1) (λ_ _=>rfl))))),?_⟩
  walk_at "r";refine⟨bk,_,_,_,_,rfl,h1,T.Z8t,T.Z8w,rfl,?_⟩;walk_at "r";refine⟨pg,sn,dl,g,nm,rfl,PA,by rw[eg];simp,?_⟩;walk_at "r";refine⟨bk,_,_,_,_,rfl,h1,T.Z8t,T.Z8w,rfl,?_⟩;walk_at "r";refine⟨pg,sn,dl,g,day,nm,hm,r,m,rfl,PA,eg,run,hle,λmu ct ps2 H1 M=>?_⟩;obtain⟨dm,ro,ba,a1,a2,a3,a4,a5⟩:=M.at';obtain⟨p,ep⟩:∃ p,ps2[0]? = some p:=⟨ps2[0]'(by rw[M.len];simp),by rw[List.getElem?_eq_getElem]⟩;refine⟨mu,_,_,_,_,rfl,a1,T.Z8Z,T.Z8I,rfl,?_⟩;walk_at "r";refine⟨ro,_,rfl,M.get (i:=0) rfl ep a2,?_⟩;exact k p.1 p.2 H1 M.same (M.man 0 _ p rfl ep)
theorem XY (T:Txt K mg A)(TD:DictF w K A.Z8y (Zs A)):FnOk P w K mg base CX0 8 A.Z9u A.Zag ["self","man","day"] (Z5H A):=by
 have ZfY:=@Z5e P w K mg base A T;have ZaR:=@Ji P w K mg base A T TD;refine T.Z9w.ok Z14 (λvs H Q E h=>?_) (λcdv A' outer s H vs Q E hr h=>?_)
 ·obtain⟨bk,pa,fu,pg,sn,dl,ps,fs,g,nm,day,m,rfl,_⟩:=h;rfl
 ·obtain⟨bk,pa,fu,pg,sn,dl,ps,fs,g,nm,day,m,rfl,B,PA,mi,k⟩:=h;obtain⟨dx,h1⟩:=B.at';refine⟨_,(Z8 (Zj (Za ZfY (hr.mono (by decide)) rfl T.Zf2 T.Ze9.kp T.Zf8 .nil Z9 (Z0 (Zy (pv 0) T.Z8t ⟨T.ZaQ,T.Za8,T.Z9v.kp⟩ ZaR (hr.mono (by decide)) T.ZaB .nil Z9 (Z0 (pv 1) (Z0 (pv 2) Z4))) Z4)))),?_⟩;walk_at "r";refine⟨bk,dx,_,rfl,h1,rfl,?_⟩;walk_at "r";refine⟨bk,pa,fu,pg,sn,dl,ps,fs,g,nm,day,m,rfl,B,PA,mi,λa c H1 s1 hm=>?_⟩;obtain⟨hm0,r,eg,run,hle⟩:=mi;exact⟨a,c,m,rfl,hm,run.dead rfl,λH2 s2=>k H2 (s1.trans s2)⟩
theorem Z1N (T:Txt K mg A)(TD:DictF w K A.Z8y (Zs A)):FnOk P w K mg base CX0 8 A.Z9L A.ZaC ["self","man","day"] (Z5X A):=by
 have ZfN:=@Z33 P w K mg base A T;have ZaR:=@Ji P w K mg base A T TD;refine T.ZbC.ok Z1P (λvs H Q E h=>?_) (λcdv A' outer s H vs Q E hr h=>?_)
 ·obtain⟨bk,pa,fu,pg,sn,dl,ps,fs,g,nm,day,m,rfl,_⟩:=h;rfl
 ·obtain⟨bk,pa,fu,pg,sn,dl,ps,fs,g,nm,day,m,rfl,B,PA,mi,k⟩:=h;obtain⟨dx,h1⟩:=B.at';refine⟨_,(Z8 (Zj (Za ZfN (hr.mono (by decide)) rfl T.ZeA T.ZcO.kp T.ZeB .nil Z9 (Z0 (Zy (pv 0) T.Z8t ⟨T.ZaQ,T.Za8,T.Z9v.kp⟩ ZaR (hr.mono (by decide)) T.ZaB .nil Z9 (Z0 (pv 1) (Z0 (pv 2) Z4))) Z4)))),?_⟩;walk_at "r";refine⟨bk,dx,_,rfl,h1,rfl,?_⟩;walk_at "r";refine⟨bk,pa,fu,pg,sn,dl,ps,fs,g,nm,day,m,rfl,B,PA,mi,λa c H1 s1 hm=>?_⟩;exact⟨a,c,m,rfl,hm,λp H2 s2 hp e2=>k p H2 (s1.trans s2) (s1.free hp) e2⟩
theorem Z7a (T:Txt K mg A)(TD:DictF w K A.Z8y (Zs A)):FnOk P w K mg base CX0 9 A.Zf7 A.ZeG ["_law_book","_law_name","_law_day"] (Z7X A):=by
 have Zb1:=@JA P w K mg base A T;have Zeu:=@Z0i P w K mg base A T;have ZaS:=@XY P w K mg base A T TD;have Zfa:=@Z1N P w K mg base A T TD;refine T.Zbz.ok Z6N (λvs H Q E h=>?_) (λcdv A' outer s H vs Q E hr h=>?_)
 ·obtain⟨bk,pa,fu,pg,sn,dl,ps,fs,g,nm,day,m,xs,rfl,_⟩:=h;rfl
 ·obtain⟨bk,pa,fu,pg,sn,dl,ps,fs,g,nm,day,m,xs,rfl,B,PA,hdl,mi,k⟩:=h;obtain⟨dx,h1⟩:=B.at';refine⟨_,(Z8 (Zj (YN (Z0 (Jo (pv 0) T.Z8t ⟨T.Zbb,T.ZaF,T.Z9I.kp⟩ Zb1 (hr.mono (by decide)) T.Zb4 .nil Z9) (Z0 (Jo (pv 0) T.Z8t ⟨T.ZbJ,T.Zbl,T.Z9Q.kp⟩ Zeu (hr.mono (by decide)) T.ZbF .nil Z9) (Z0 (Zy (pv 0) T.Z8t ⟨T.ZaO,T.Zad,T.Z9w.kp⟩ ZaS (hr.mono (by decide)) T.ZaN .nil Z9 (Z0 (pv 1) (Z0 (pv 2) Z4))) (Z0 (Zy (pv 0) T.Z8t ⟨T.Zdf,T.Zd6,T.ZbC.kp⟩ Zfa (hr.mono (by decide)) T.ZdA .nil Z9 (Z0 (pv 1) (Z0 (pv 2) Z4))) Z4))))))),?_⟩;walk_at "r";refine⟨bk,dx,_,rfl,h1,rfl,?_⟩;walk_at "r";refine⟨bk,pa,fu,pg,sn,dl,ps,fs,g,xs,rfl,B,PA,hdl,λp1 hp1=>?_⟩;have s1:=Same.new hp1 (HO.lst xs);walk_at "r";refine⟨bk,dx,_,rfl,s1 _ _ h1,rfl,?_⟩;walk_at "r";refine⟨bk,pa,fu,pg,sn,dl,ps,fs,g,rfl,B.same s1,PA.same s1,?_⟩;walk_at "r";refine⟨bk,dx,_,rfl,s1 _ _ h1,rfl,?_⟩;walk_at "r";refine⟨bk,pa,fu,pg,sn,dl,ps,fs,g,nm,day,m,rfl,B.same s1,PA.same s1,mi,λH2 s2=>?_⟩;have S2:=s1.trans s2;walk_at "r";refine⟨bk,dx,_,rfl,S2 _ _ h1,rfl,?_⟩;walk_at "r";refine⟨bk,pa,fu,pg,sn,dl,ps,fs,g,nm,day,m,rfl,B.same S2,PA.same S2,mi,λp2 H3 s3 hp2 e2=>?_⟩;have S3:=S2.trans s3;walk_at "r";refine⟨by show 4≤sizeLine;decide,λp hp=>?_⟩;have s4:=Same.new hp (HO.tup [.ref p1,.int g.next,.str (YI m),.ref p2]);exact k p p1 p2 _ (S3.trans s4) (S3.free hp) hp1 (S2.free hp2) Z1 (s4 _ _ (s3 _ _ (s2 _ _ Z1))) (s4 _ _ e2)
theorem Z0J (T:Txt K mg A):FnOk P w K mg base CX0 2 A.Zac A.Za0 ["_law_book","_law_word"] (Z7S A):=by
 have Zft:=@Z27 P w K mg base A T;have Zfm:=@Z2O P w K mg base A T;refine T.Z8M.ok Z9f (λvs H Q E h=>?_) (λcdv A' outer s H vs Q E hr h=>?_)
 ·obtain⟨bk,pa,fu,pg,ps,fs,wd,rfl,_⟩:=h;rfl
 ·obtain⟨bk,pa,fu,pg,ps,fs,wd,rfl,B,hn,hm,npf,k⟩:=h;obtain⟨dx,h1⟩:=B.at';refine⟨_,(Z7 (Zq (i:=2) Z9f.nd rfl (Or.inl rfl) Z4r)
   (Z7 (Z72 rfl rfl (Z0x (Z7y (Zk Y9 (pv 1) Zw (Zp _)) (Z0x (Z1F (ix:=2) (pv 0) T.Z8t ⟨T.ZdU,T.Zdw,T.Zct.kp⟩ Zft (hr.mono (by decide)) T.Ze7 Z9f.nd rfl (Or.inl rfl))) (Z0x (Z1F (ix:=2) (pv 0) T.Z8t ⟨T.ZdJ,T.Zdt,T.Zch.kp⟩ Zfm (hr.mono (by decide)) T.ZdI Z9f.nd rfl (Or.inl rfl))))) rfl T.ZcG T.Za5 (λ_=>(Z8 (Zj Xo))))
   (Z8 (Zj (Z02 Z7A (pv 2) Z4r (Zp _)))))),?_⟩
  walk_at "r"
  change (Z1S (tOp rEq (XX 1) (tC (V.str "undo")))) _ H (λb H1=>if b=true then Z2Z A.Z8s "undo" 2 (Z4M A) (XX 0) JN _ _ _ H1 else Z2Z A.Z8s "redo" 2 (Z4H A) (XX 0) JN _ _ _ H1)
  walk_at "r";refine⟨rfl,?_⟩;rw[ZD];walk_at "r"
  rcases k with⟨rfl,k1,k2⟩|⟨rfl,k1,k2⟩
  ·refine ZJ (by decide) ?_;refine⟨_,rfl,bk,dx,_,rfl,h1,rfl,?_⟩;refine⟨bk,pa,fu,pg,ps,fs,rfl,B,hm,npf,λe=>⟨_,rfl,Z3t T.Za5,T.ZfW,λx hx=>?_⟩,λps0 p e H' B' kp=>?_⟩
   ·walk_at "r";exact k1 e _ (Same.new hx _)
   ·walk_at "r";refine⟨rfl,?_⟩;exact k2 ps0 p e H' B' kp
  ·refine Zo (by decide) ?_;refine⟨_,rfl,bk,dx,_,rfl,h1,rfl,?_⟩;refine⟨bk,pa,fu,pg,ps,fs,rfl,B,hn,npf,λe=>⟨_,rfl,Z3t T.Za5,T.ZfW,λx hx=>?_⟩,λfs0 p e H' B' kp=>?_⟩
   ·walk_at "r";exact k1 e _ (Same.new hx _)
   ·walk_at "r";refine⟨rfl,?_⟩;exact k2 fs0 p e H' B' kp
end
noncomputable def Z3z (y:Str)(ds:List (Int×Int×Deed)):Prop:=∀ d∈ds,∀ a s,d.2.2=.take a s→s=y
noncomputable def Z5L (x y:Str)(m:Ms):Prop:=m.home=x∧(m.cl=none∨∃ d b,m.cl=some (y,d,b))
theorem RunM.cl {nm x y:Str}{m m':Ms}{ds:List (Int×Int×Deed)}(h:RunM nm m ds m')(t:Z3z y ds)(c:Z5L x y m):Z5L x y m':=by
 induction h with
 | nil=>exact c
 | @cons m m1 m2 n day d r a b st _ ih=>
   refine ih (λd2 h2=>t d2 (.tail _ h2)) ?_;cases st with
   | @take _ sd h1 h2 h3=>
     obtain rfl:=t _ (.head _) _ _ rfl;exact⟨c.1,.inr ⟨_,_,rfl⟩⟩
   | @word _ sd d0 h1 h2=>
     rcases c.2 with e|⟨d1,b1,e⟩
     ·rw[e] at h1;cases h1
     ·rw[e] at h1;cases h1;exact⟨c.1,.inr ⟨_,_,rfl⟩⟩
   | flee h1 h2=>exact⟨c.1,.inl rfl⟩
theorem StepM.anyDay {d1 d2:Int}{m m':Ms}{d:Deed}(h:StepM d1 m d m'):∃ m'',StepM d2 m d m'':=by
 cases h with
 | take a b c=>exact⟨_,.take a b c⟩
 | word a b=>exact⟨_,.word a b⟩
 | flee a b=>exact⟨_,.flee a b⟩
structure GoodG (nm x y:Str)(t:Nat)(g:Pg):Prop where
 sides:g.sides=[x,y]
 men:g.men=[(nm,x,2)]
 nums:g.deeds.Pairwise (λa b=>a.1 < b.1)
 next:∀ d∈g.deeds,d.1 < g.next
 days:g.deeds.Pairwise (λa b=>a.2.1 < b.2.1)
 day:∀ d∈g.deeds,0≤d.2.1∧d.2.1 < t
 len:g.deeds.length≤31
 takes:Z3z y g.deeds
 run:∃ m,RunM nm ⟨x,2,false,none⟩ g.deeds m
section
variable {nm x y:Str}{t:Nat}{g:Pg}
theorem GoodG.cl (h:GoodG nm x y t g){m:Ms}(r:RunM nm ⟨x,2,false,none⟩ g.deeds m):Z5L x y m:=r.cl h.takes ⟨rfl,.inl rfl⟩
theorem GoodG.manIs (h:GoodG nm x y t g){m:Ms}{day:Int}(r:RunM nm ⟨x,2,false,none⟩ g.deeds m)(hd:(t:Int)≤day + 1):Z0H g nm day m:=
 ⟨x,2,h.men,r,λd e=>by have:=(h.day d e).2;omega⟩
theorem GoodG.sub (h:GoodG nm x y t g){a:List (Int×Int×Deed)}{d:Int×Int×Deed}(e:g.deeds=a++[d]):GoodG nm x y (t + 1) { g with deeds:=a }:=by
 have hs:List.Sublist a g.deeds:=by rw[e];exact List.sublist_append_left _ _
 obtain⟨m,r⟩:=h.run;rw[e] at r;obtain⟨m1,r1,_⟩:=r.split;exact⟨h.sides,h.men,h.nums.sublist hs,λd hd=>h.next d (hs.subset hd),h.days.sublist hs,λd hd=>⟨(h.day d (hs.subset hd)).1,by have:=(h.day d (hs.subset hd)).2;omega⟩,Nat.le_trans hs.length_le h.len,λd hd=>h.takes d (hs.subset hd),m1,r1⟩
theorem GoodG.struck (h:GoodG nm x y t g){a:List (Int×Int×Deed)}{d:Int×Int×Deed}(e:g.deeds=a++[d]):a=g.deeds.filter (λz=>!decide (z.1=d.1)):=by
 have hp:=h.nums;rw[e] at hp ⊢;have hp2:=List.pairwise_append.mp hp;rw[List.filter_append,List.filter_cons_of_neg (by simp),List.filter_nil,List.append_nil];refine (List.filter_eq_self.mpr λz hz=>?_).symm;have:=hp2.2.2 z hz d (by simp);simp;omega
theorem GoodG.sorted (h:GoodG nm x y t g):SortedD g.deeds:=⟨by have:=h.len;omega,h.days⟩
theorem GoodG.redated (h:GoodG nm x y t g){a:List (Int×Int×Deed)}{d:Int×Int×Deed}(e:g.deeds=a++[d]) :
 g.deeds.map (λz=>if z.1=d.1 then (z.1,(t:Int),z.2.2) else z)=a++[(d.1,(t:Int),d.2.2)]∧GoodG nm x y (t + 1) { g with deeds:=a++[(d.1,(t:Int),d.2.2)] }:=by
 have hp:=h.nums;rw[e] at hp;have hp2:=List.pairwise_append.mp hp;have hq:=h.days;rw[e] at hq;have hq2:=List.pairwise_append.mp hq;have ina:∀ z∈a,z∈g.deeds:=λz hz=>by rw[e];exact List.mem_append_left _ hz
 have ind:d∈g.deeds:=by rw[e];simp
 refine⟨?_,h.sides,h.men,?_,λz hz=>?_,?_,λz hz=>?_,?_,λz hz p s es=>?_,?_⟩
 ·rw[e,List.map_append,List.map_cons,List.map_nil,if_pos rfl]
  congr 1
  refine (List.map_congr_left λz hz=>?_).trans (List.map_id _);have:=hp2.2.2 z hz d (by simp);rw[if_neg (by omega)];rfl
 ·refine List.pairwise_append.mpr ⟨hp2.1,by simp,λz hz u hu=>?_⟩;obtain rfl:u=(d.1,(t:Int),d.2.2):=by simpa using hu
  exact hp2.2.2 z hz d (by simp)
 ·rcases List.mem_append.mp hz with z1|z1
  ·exact h.next z (ina z z1)
  ·obtain rfl:z=(d.1,(t:Int),d.2.2):=by simpa using z1
   exact h.next d ind
 ·refine List.pairwise_append.mpr ⟨hq2.1,by simp,λz hz u hu=>?_⟩;obtain rfl:u=(d.1,(t:Int),d.2.2):=by simpa using hu
  exact (h.day z (ina z hz)).2
 ·rcases List.mem_append.mp hz with z1|z1
  ·have:=h.day z (ina z z1);exact⟨this.1,by omega⟩
  ·obtain rfl:z=(d.1,(t:Int),d.2.2):=by simpa using z1
   exact⟨by show (0:Int)≤t;omega,by show (t:Int) < ((t + 1:Nat):Int);omega⟩
 ·have:=h.len;rw[e] at this
  simpa using this
 ·rcases List.mem_append.mp hz with z1|z1
  ·exact h.takes z (ina z z1) p s es
  ·obtain rfl:z=(d.1,(t:Int),d.2.2):=by simpa using z1
   exact h.takes d ind p s es
 ·obtain⟨m,r⟩:=h.run;rw[e] at r;obtain⟨m1,r1,r2⟩:=r.split;cases r2 with
  | cons a1 a2 st _=>
    obtain⟨m2,st2⟩:=st.anyDay (d2:=(t:Int));exact⟨m2,r1.append (.cons a1 a2 st2 .nil)⟩
theorem GoodG.added (h:GoodG nm x y t g)(hl:g.deeds.length≤30){m m':Ms}{d:Deed}(r:RunM nm ⟨x,2,false,none⟩ g.deeds m)(hn:Xw d=nm)(st:StepM (t:Int) m d m')(ht:∀ a s,d=.take a s→s=y):GoodG nm x y (t + 1) (Z4d g t d):=by
 unfold Z4d;refine⟨h.sides,h.men,?_,λz hz=>?_,?_,λz hz=>?_,by simp;omega,λz hz p s es=>?_,m',?_⟩
 ·refine List.pairwise_append.mpr ⟨h.nums,by simp,λz hz u hu=>?_⟩;obtain rfl:u=(g.next,(t:Int),d):=by simpa using hu
  exact h.next z hz
 ·show z.1 < g.next + 1
  rcases List.mem_append.mp hz with z1|z1
  ·have:=h.next z z1;omega
  ·obtain rfl:z=(g.next,(t:Int),d):=by simpa using z1
   show g.next < g.next + 1;omega
 ·refine List.pairwise_append.mpr ⟨h.days,by simp,λz hz u hu=>?_⟩;obtain rfl:u=(g.next,(t:Int),d):=by simpa using hu
  exact (h.day z hz).2
 ·rcases List.mem_append.mp hz with z1|z1
  ·have:=h.day z z1;exact⟨this.1,by omega⟩
  ·obtain rfl:z=(g.next,(t:Int),d):=by simpa using z1
   exact⟨by show (0:Int)≤t;omega,by show (t:Int) < ((t + 1:Nat):Int);omega⟩
 ·rcases List.mem_append.mp hz with z1|z1
  ·exact h.takes z z1 p s es
  ·obtain rfl:z=(g.next,(t:Int),d):=by simpa using z1
   exact ht p s es
 ·exact r.append (.cons hn (r.dead rfl) st .nil)
end
theorem RunG.of {nm x:Str}{g:Pg}{ds:List (Int×Int×Deed)}{m:Ms}(e:g.men=[(nm,x,2)])(r:RunM nm ⟨x,2,false,none⟩ ds m):RunG g ds:=⟨nm,x,2,m,e,r⟩
theorem DeedAt.sameT {H H':Hp}{dd:Addr}{d:Deed}(h:DeedAt H dd d)(s:∀ p xs,H p=some (.tup xs)→H' p=some (.tup xs)):DeedAt H' dd d:=by
 cases d with
 | take m x=>exact s _ _ h
 | word m=>exact s _ _ h
 | flee m=>exact s _ _ h
theorem PgAt.same41 {A:Ad}{H H':Hp}{pg sn dl:Addr}{g:Pg}(h:PgAt A H pg sn dl g)(k:∀ d o,H d=some o→(d=pg∨d=sn∨d=dl∨((∀ xs,o≠.lst xs)∧∀ c x fs,o≠.ins c x fs))→H' d=some o):PgAt A H' pg sn dl g:=by
 obtain⟨dp,mt,ct,kvs,a,b,c,d⟩:=h.at';have kt:∀ p xs,H p=some (.tup xs)→H' p=some (.tup xs):=λp xs e=>k _ _ e (.inr (.inr (.inr ⟨λ_=>by simp,λ_ _ _=>by simp⟩)));refine⟨⟨dp,mt,ct,kvs,k _ _ a (.inl rfl),k _ _ b (.inr (.inr (.inr ⟨λ_=>by simp,λ_ _ _=>by simp⟩))),c.same λp xs e=>kt _ _ e,k _ _ d (.inr (.inr (.inr ⟨λ_=>by simp,λ_ _ _=>by simp⟩)))⟩,k _ _ h.hs (.inr (.inl rfl)),?_⟩;obtain⟨es,q1,q2,q3⟩:=h.hd;exact⟨es,k _ _ q1 (.inr (.inr (.inl rfl))),q2,λi d e=>let ⟨x,dd,p,q,r⟩:=q3 i d e;⟨x,dd,p,kt _ _ q,r.sameT kt⟩⟩
noncomputable def Z7u (A:Ad):Sp:=λvs H Q _=>∃ (b l bk pa fu pg sn dl:Addr) (ns:List Int) (ps fs:List Addr) (g:Pg) (nm x y:Str) (t:Nat),vs=[.ref b,.ref bk,.str nm,.str y,.int t]∧BoxAt H b l ns∧BookS A H bk pa fu pg ps fs∧ps.length≤900∧PgAt A H pg sn dl g∧GoodG nm x y t g∧t≤1000∧x≠y∧y≠""∧pa≠b∧fu≠b∧sn≠b∧dl≠b∧
 ∀ (g':Pg) (H1 H':Hp) (pg' sn' dl' fu':Addr),GoodG nm x y (t + 1) g'→BoxAt H1 b l ns→Keep b H H1→(sn'=sn∨H sn'=none)→(dl'=dl∨H dl'=none)→PgAt A H1 pg' sn' dl' g'→H1 fu'=none→BookS A H' bk pa fu' pg' (ps++[pg]) []→JX bk pa H1 H'→Q .non H'
theorem Z6B {tc:TT}{t u:TS}{D:Ends}{σ:L2.St}{H:Hp}(M:Bool→Hp→Prop)(first:∀ Q':Bool→Hp→Prop,(∀ c H',M c H'→Q' c H')→tc σ H Q')(yes:∀ H',M true H'→t D σ H')(no:∀ H',M false H'→u D σ H'):Z2U tc t u D σ H:=
 first _ λc H' m=>by
  cases c with
  | true=>rw[if_pos rfl];exact yes H' m
  | false=>rw[if_neg Bool.false_ne_true];exact no H' m
theorem BoxAt.more {H H':Hp}{b l:Addr}{ns:List Int}(h:BoxAt H b l ns)(s:Same H H'):BoxAt H' b l ns:=by
 obtain⟨i,a,c,d,h1,h2,h3⟩:=h;exact⟨i,a,c,d,s _ _ h1,s _ _ h2,h3⟩
theorem JO {α:Type}{xs:List α}(h:0 < xs.length):∃ a d,xs=a++[d]:=by
 have he:xs≠[]:=λz=>by rw[z] at h;simp at h
 exact⟨xs.dropLast,xs.getLast he,(List.dropLast_concat_getLast he).symm⟩
section
variable {P:Program}{w:World}{K:W.Frag}{mg:Str→Option Value}{base:Heap}{A:Ad}
theorem Z5F (T:Txt K mg A)(TD:DictF w K A.Z8y (Zs A)):FnOk P w K mg base CX0 10 A.ZeH A.Zen ["_law_box_here","_law_book","_law_name","_law_side","_law_day"] (Z7u A):=by
 have Z8F:=@Jm P w K mg base A T;have Zb1:=@JA P w K mg base A T;have ZaS:=@XY P w K mg base A T TD;have ZeV:=@Z1h P w K mg base A T TD;have ZeW:=@Z0Z P w K mg base A T TD;have Zfj:=@Z2A P w K mg base A T TD;have Zfw:=@Z2L P w K mg base A T TD;have Zfx:=@Z2p P w K mg base A T TD;refine T.ZeO.ok Zf4 (λvs H Q E h=>?_) (λcdv A' outer s H vs Q E hr h=>?_)
 ·obtain⟨b,l,bk,pa,fu,pg,sn,dl,ns,ps,fs,g,nm,x,y,t,rfl,_⟩:=h;rfl
 ·obtain⟨b,l,bk,pa,fu,pg,sn,dl,ns,ps,fs,g,nm,x,y,t,rfl,hB,B,hps,PA,gg,ht,nxy,ny,n1,n2,n3,n4,k⟩:=h;obtain⟨dx,h1⟩:=B.at';obtain⟨es,f1,f2,f3⟩:=PA.hd;obtain⟨i0,l0,t0,s0,hb1,hb2,hb3⟩:=id hB;have nbk:bk≠b:=Zi h1 hb1 (by simp);have keepB:∀ {H2:Hp},Keep b H H2→BookS A H2 bk pa fu pg ps fs:=λkp=>⟨⟨dx,kp _ _ h1 nbk⟩,kp _ _ B.hp n1,kp _ _ B.hf n2⟩;have keepP:∀ {H2:Hp},Keep b H H2→PgAt A H2 pg sn dl g:=fun {H2} kp=>PA.same41 (λd o e hd=>kp _ _ e (by
   rcases hd with rfl|rfl|rfl|⟨hd,_⟩
   ·obtain⟨dp,mt,ct,kvs,a,_⟩:=PA.at';exact Zi a hb1 (by simp)
   ·exact n3
   ·exact n4
   ·exact Zi e hb1 (hd _)))
  refine⟨_,(Z7 (Zq (i:=5) Zf4.nd rfl (Or.inl rfl) (Jo (pv 1) T.Z8t ⟨T.Zbb,T.ZaF,T.Z9I.kp⟩ Zb1 (hr.mono (by decide)) T.Zb4 .nil Z9))
   (Z8 (Zr (PW.pt (Z40 (PW.pt (J9 (Zk Z0G (ZA (XV (K:=K) rfl) rfl T.Z9d PySem.boot_len (Z0 (pv 5) Z4)) Z5 (Zp _)) (Jh (Zk Y9 (Za Z8F (hr.mono (by decide)) rfl T.Z8L T.Z8H.kp T.Z8K .nil Z9 (Z0 (pv 0) (Z0 Z5 Z4))) Z5 (Zp _))))) (Z1Y (Zk Z0G (ZA (XV (K:=K) rfl) rfl T.Z9d PySem.boot_len (Z0 (pv 5) Z4)) Z5 (Zp _))))) (Z8 (Zh (Zy (pv 1) T.Z8t ⟨T.Zd1,T.ZcE,T.ZaI.kp⟩ ZeV (hr.mono (by decide)) T.Zd0 .nil Z9 (Z0 (Zg (ixT (K:=K) rfl) (Zg (ixL (K:=K) rfl) (pv 5) (Z01 Jb Z5) (λ_ _=>rfl)) Z5 (λ_ _=>rfl)) Z4)))) (Z8 (Zr (PW.pt (J9 (Zk Z0G (ZA (XV (K:=K) rfl) rfl T.Z9d PySem.boot_len (Z0 (pv 5) Z4)) Z5 (Zp _)) (Jh (Zk Y9 (Za Z8F (hr.mono (by decide)) rfl T.Z8L T.Z8H.kp T.Z8K .nil Z9 (Z0 (pv 0) (Z0 Z5 Z4))) Z5 (Zp _))))) (Z8 (Zh (Zy (pv 1) T.Z8t ⟨T.Zd7,T.Zcu,T.ZaP.kp⟩ ZeW (hr.mono (by decide)) T.Zd2 .nil Z9 (Z0 (Zg (ixT (K:=K) rfl) (Zg (ixL (K:=K) rfl) (pv 5) (Z01 Jb Z5) (λ_ _=>rfl)) Z5 (λ_ _=>rfl)) (Z0 (pv 4) Z4))))) (Z8 (Zr (Zk Z1R (Zy (pv 1) T.Z8t ⟨T.ZaO,T.Zad,T.Z9w.kp⟩ ZaS (hr.mono (by decide)) T.ZaN .nil Z9 (Z0 (pv 2) (Z0 (pv 4) Z4))) Zw (Zp _)) (Z8 (Zh (Zy (pv 1) T.Z8t ⟨T.ZdK,T.Zdc,T.Zc0.kp⟩ Zfj (hr.mono (by decide)) T.Ze3 .nil Z9 (Z0 (pv 4) (Z0 (pv 2) (Z0 (pv 3) Z4)))))) (Z8 (Zr (Zk Y9 (Za Z8F (hr.mono (by decide)) rfl T.Z8L T.Z8H.kp T.Z8K .nil Z9 (Z0 (pv 0) (Z0 Z5 Z4))) Z5 (Zp _)) (Z8 (Zh (Zy (pv 1) T.Z8t ⟨T.ZdH,T.Zdo,T.Zcr.kp⟩ Zfw (hr.mono (by decide)) T.ZdO .nil Z9 (Z0 (pv 4) (Z0 (pv 2) Z4))))) (Z8 (Zh (Zy (pv 1) T.Z8t ⟨T.ZdT,T.Zdr,T.Zco.kp⟩ Zfx (hr.mono (by decide)) T.ZdG .nil Z9 (Z0 (pv 4) (Z0 (pv 2) Z4)))))))))))))),?_⟩
  walk_at "r";refine⟨bk,dx,_,rfl,h1,rfl,?_⟩;walk_at "r";refine⟨bk,pa,fu,pg,sn,dl,ps,fs,g,_,rfl,B,PA,f1,λrw hrw=>?_⟩;have srw:=Same.new hrw (HO.lst (es.map V.ref));have nrb:rw≠b:=Ne.symm (Z6 hb1 hrw);obtain⟨_,_,B0⟩:=hB.new (o:=.lst (es.map V.ref)) hrw;have K0:Keep b H (upd H rw (.lst (es.map V.ref))):=srw.keep;have hrw0:upd H rw (.lst (es.map V.ref)) rw=some (.lst (es.map V.ref)):=Z1;generalize upd H rw (.lst (es.map V.ref))=H0 at srw B0 K0 hrw0 ⊢
  change Z2U _ _ _ _ [some (.ref b),some (.ref bk),some (.str nm),some (.str y),some (.int t),some (.ref rw)] H0
  obtain⟨m,run⟩:=gg.run;have mcl:=gg.cl run;have fin:∀ {g':Pg}{H3:Hp} (v:V),Keep b H H3→BoxAt H3 b l ns→GoodG nm x y (t + 1) g'→Turned A H3 bk pa pg sn dl ps g' (λ_ H'=>Q .non H') v:=fun {g' H3} v K3 B3 gg' H1 pg' sn' dl' s1 hsn hdl PA' fu' H' hf B' kp=>by
   obtain⟨o3,hb3'⟩:=B3.b;have fr:∀ q,H3 q=none→H q=none:=λq hq=>K3.free hq λz=>by rw[z,hb3'] at hq;cases hq
   exact k _ H1 H' pg' sn' dl' fu' gg' (B3.more s1) (K3.trans s1.keep) (hsn.imp_right (fr _)) (hdl.imp_right (fr _)) PA' hf B' kp
  have lens:es.length=g.deeds.length:=f2;refine Z6B (λc H2=>BoxAt H2 b l ns∧Keep b H0 H2∧(c=true→0 < es.length)∧(c=false→es.length≤30)) (λQ' hq=>?_) (λH2 m2=>?_) (λH2 m2=>?_)
  ·walk_at "r";refine⟨rw,_,rfl,.inl (SqL.of hrw0),?_⟩;walk_at "r";rw[List.length_map]
   by_cases h0:0 < es.length
   ·refine ZJ (decide_eq_true (by omega)) ?_;walk_at "r";refine⟨b,l,ns,3,rfl,B0,by decide,by decide,λr H2 r0 r1 B2 k2 _=>?_⟩;walk_at "r"
    by_cases e:r=0
    ·refine ZJ (decide_eq_true e) ?_;exact hq true H2 ⟨B2,k2,λ_=>h0,λz=>by cases z⟩
    ·refine Zo (λz=>e (of_decide_eq_true z)) ?_;walk_at "r";refine⟨rw,_,rfl,.inl (SqL.of (k2 _ _ hrw0 nrb)),?_⟩;walk_at "r";refine hq _ H2 ⟨B2,k2,λ_=>h0,λz=>?_⟩;have:=of_decide_eq_false z;rw[List.length_map] at this;omega
   ·refine Zo (λz=>h0 (by have:=of_decide_eq_true z;omega)) ?_;walk_at "r";refine Zo Bool.false_ne_true ?_;walk_at "r";refine⟨rw,_,rfl,.inl (SqL.of hrw0),?_⟩;walk_at "r";refine hq _ H0 ⟨B0,Keep.refl,λz=>?_,λz=>by omega⟩;have:=of_decide_eq_true z;rw[List.length_map] at this;omega
  ·obtain⟨B2,k2,c1,_⟩:=m2;have K2:=K0.trans k2;obtain⟨a,d,ea⟩:=JO (xs:=g.deeds) (by have:=c1 rfl;omega);obtain⟨ea',e,ee⟩:=JO (c1 rfl);have hrw2:=k2 _ _ hrw0 nrb;rw[ee,List.map_append] at hrw2;obtain⟨e',dd,a1,a2,a3⟩:=f3 a.length d (by rw[ea];simp);have el:ea'.length=a.length:=by
    have:=lens;rw[ee,ea] at this
    simpa using this
   rw[ee,←el] at a1;obtain rfl:e=e':=by simpa using a1
   have a2':=K2 _ _ a2 (Zi a2 hb1 (by simp));walk_at "r";refine⟨bk,dx,_,rfl,K2 _ _ h1 nbk,rfl,?_⟩;walk_at "r";refine Zn (SqL.of hrw2) (Z0r _ _) ?_;walk_at "r";refine⟨e,_,0,_,rfl,rfl,SqT.of a2',rfl,?_⟩;walk_at "r";obtain⟨ms,rs⟩:=(gg.sub ea).run;exact⟨bk,pa,fu,pg,sn,dl,ps,fs,g,d.1,a,rfl,keepB K2,hps,keepP K2,by have:=gg.len;omega,by rw[ea];simp,gg.struck ea,(gg.sub ea).sorted,RunG.of gg.men rs,fin _ K2 B2 (gg.sub ea)⟩
  ·obtain⟨B2,k2,_,c2⟩:=m2;have hl30:=c2 rfl;have K2:=K0.trans k2;have hrw2:=k2 _ _ hrw0 nrb;refine Z6B (λc H3=>BoxAt H3 b l ns∧Keep b H2 H3∧(c=true→0 < es.length)) (λQ' hq=>?_) (λH3 m3=>?_) (λH3 m3=>?_)
   ·walk_at "r";refine⟨rw,_,rfl,.inl (SqL.of hrw2),?_⟩;walk_at "r";rw[List.length_map]
    by_cases h0:0 < es.length
    ·refine ZJ (decide_eq_true (by omega)) ?_;walk_at "r";refine⟨b,l,ns,9,rfl,B2,by decide,by decide,λr H3 r0 r1 B3 k3 _=>?_⟩;walk_at "r";exact hq _ H3 ⟨B3,k3,λ_=>h0⟩
    ·refine Zo (λz=>h0 (by have:=of_decide_eq_true z;omega)) ?_;walk_at "r";exact hq _ H2 ⟨B2,Keep.refl,λz=>by cases z⟩
   ·obtain⟨B3,k3,c1⟩:=m3;have K3:=K2.trans k3;obtain⟨a,d,ea⟩:=JO (xs:=g.deeds) (by have:=c1 rfl;omega);obtain⟨ea',e,ee⟩:=JO (c1 rfl);have hrw3:=k3 _ _ hrw2 nrb;rw[ee,List.map_append] at hrw3;obtain⟨e',dd,a1,a2,a3⟩:=f3 a.length d (by rw[ea];simp);have el:ea'.length=a.length:=by
     have:=lens;rw[ee,ea] at this
     simpa using this
    rw[ee,←el] at a1;obtain rfl:e=e':=by simpa using a1
    have a2':=K3 _ _ a2 (Zi a2 hb1 (by simp));walk_at "r";refine⟨bk,dx,_,rfl,K3 _ _ h1 nbk,rfl,?_⟩;walk_at "r";refine Zn (SqL.of hrw3) (Z0r _ _) ?_;walk_at "r";refine⟨e,_,0,_,rfl,rfl,SqT.of a2',rfl,?_⟩;walk_at "r";obtain⟨r1,r2⟩:=gg.redated ea;obtain⟨ms,rs⟩:=r2.run;exact⟨bk,pa,fu,pg,sn,dl,ps,fs,g,d.1,t,_,rfl,keepB K3,hps,keepP K3,by have:=gg.len;omega,by rw[ea];simp,⟨by omega,by omega⟩,r1.symm,r2.sorted,RunG.of gg.men rs,fin _ K3 B3 r2⟩
   ·obtain⟨B3,k3,_⟩:=m3;have K3:=K2.trans k3;walk_at "r";refine⟨bk,dx,_,rfl,K3 _ _ h1 nbk,rfl,?_⟩;walk_at "r";refine⟨bk,pa,fu,pg,sn,dl,ps,fs,g,nm,t,m,rfl,keepB K3,keepP K3,gg.manIs run (by omega),λH4 s4=>?_⟩;have K4:=K3.trans s4.keep;have B4:=B3.more s4;have tell:∀ {H5:Hp}{dd:Deed}{m':Ms},Keep b H H5→BoxAt H5 b l ns→Xw dd=nm→StepM (t:Int) m dd m'→(∀ a s,dd=.take a s→s=y)→TellK A H5 bk t dd (λ_ H'=>Q .non H'):=fun {H5 dd m'} K5 B5 hn st hy=>by
     have ga:=gg.added (by omega) run hn st hy;obtain⟨ms,rs⟩:=ga.run;refine⟨pa,fu,pg,sn,dl,ps,fs,g,keepB K5,hps,keepP K5,⟨by omega,by omega⟩,?_,ga.sorted,RunG.of gg.men rs,fin _ K5 B5 ga⟩;cases dd with
     | take a s=>exact⟨by rw[gg.men,←hn];simp[Xw],by rw[gg.sides,hy a s rfl];simp⟩
     | word a=>show _∈_;rw[gg.men,←hn];simp[Xw]
     | flee a=>show _∈_;rw[gg.men,←hn];simp[Xw]
    walk_at "r";refine⟨rfl,?_⟩;rw[ZD];walk_at "r"
    by_cases hh:ZC m=""
    ·have hw:YI m≠"held":=by
      unfold YI;rw[if_neg (by simpa using hh)]
      split<;>decide
     refine ZJ (by rw[beq_eq_false_iff_ne.mpr hw];rfl) ?_;walk_at "r";refine⟨bk,dx,_,rfl,K4 _ _ h1 nbk,rfl,?_⟩;walk_at "r";refine⟨bk,t,nm,y,rfl,tell K4 B4 rfl (.take (by rw[mcl.1];exact nxy) hh ?_) (λa s e=>by cases e;rfl)⟩
     rcases mcl.2 with e|⟨d0,b0,e⟩
     ·exact .inl e
     ·cases b0 with
      | true=>exact .inr ⟨d0,e⟩
      | false=>
        unfold ZC at hh;rw[e] at hh;exact absurd hh ny
    ·have hw:YI m="held":=by unfold YI;rw[if_pos hh]
     refine Zo (by rw[beq_iff_eq.mpr hw];decide) ?_;obtain⟨d0,e0⟩:∃ d0,m.cl=some (y,d0,false):=by
      rcases mcl.2 with e|⟨d0,b0,e⟩
      ·exact absurd (by unfold ZC;rw[e]) hh
      ·cases b0 with
       | true=>exact absurd (by unfold ZC;rw[e]) hh
       | false=>exact⟨d0,e⟩
     walk_at "r";refine⟨b,l,ns,2,rfl,B4,by decide,by decide,λr H5 r0 r1 B5 k5 _=>?_⟩;have K5:=K4.trans k5;walk_at "r"
     by_cases e:r=0
     ·refine ZJ (decide_eq_true e) ?_;walk_at "r";refine⟨bk,dx,_,rfl,K5 _ _ h1 nbk,rfl,?_⟩;walk_at "r";exact⟨bk,t,nm,rfl,tell K5 B5 rfl (.word e0 ny) (λa s e=>by cases e)⟩
     ·refine Zo (λz=>e (of_decide_eq_true z)) ?_;walk_at "r";refine⟨bk,dx,_,rfl,K5 _ _ h1 nbk,rfl,?_⟩;walk_at "r";exact⟨bk,t,nm,rfl,tell K5 B5 rfl (.flee e0 ny) (λa s e=>by cases e)⟩
end
noncomputable def imm (M:List Addr)(H:Hp):Hp:=λa=>if a∈M then none else H a
theorem Y1 {M:List Addr}{H:Hp}{a:Addr}{o:HO}(h:imm M H a=some o):a ∉ M∧H a=some o:=by
 unfold imm at h
 split at h
 ·cases h
 ·rename_i n;exact⟨n,h⟩
theorem XL {M:List Addr}{H:Hp}{a:Addr}{o:HO}(n:a ∉ M)(h:H a=some o):imm M H a=some o:=by
 unfold imm;rw[if_neg n];exact h
theorem Ze {M:List Addr}{H:Hp}:Same (imm M H) H:=λa o e=>(Y1 e).2
theorem Yd {M M':List Addr}{H H':Hp}(k:∀ d o,H d=some o→d ∉ M→H' d=some o∧d ∉ M'):Same (imm M H) (imm M' H'):=λa o e=>by
 obtain⟨n,h⟩:=Y1 e;obtain⟨h',n'⟩:=k a o h n;exact XL n' h'
noncomputable def Z0D:Deed→PyData
 | .take m s=>.tuple [.str "take",.str m,.str s]
 | .word m=>.tuple [.str "word",.str m]
 | .flee m=>.tuple [.str "flee",.str m]
noncomputable def Jf (d:Int×Int×Deed):PyData:=.tuple [.int d.1,.int d.2.1,Z0D d.2.2]
noncomputable def Z10 (g:Pg)(m:Ms):PyData:=.tuple [.list (g.deeds.map Jf),.int g.next,.str (YI m),.list ((ZL m).map PyData.str)]
theorem DeedAt.rep {H:Hp}{dd:Addr}{d:Deed}(h:DeedAt H dd d):Rep H (.ref dd) (Z0D d):=by
 cases d with
 | take m x=>exact .tup h (by show 3 < sizeLine;decide) (.cons (.str _) (.cons (.str _) (.cons (.str _) .nil)))
 | word m=>exact .tup h (by show 2 < sizeLine;decide) (.cons (.str _) (.cons (.str _) .nil))
 | flee m=>exact .tup h (by show 2 < sizeLine;decide) (.cons (.str _) (.cons (.str _) .nil))
theorem Z3x {H:Hp}:∀ {xs:List V}{ds:List PyData},xs.length=ds.length→(∀ (i:Nat) x d,xs[i]? = some x→ds[i]? = some d→Rep H x d)→Reps H xs ds
 | [],[],_,_=>.nil
 | [],_::_,h,_=>by simp at h
 | _::_,[],h,_=>by simp at h
 | x::xs,d::ds,h,g=>.cons (g 0 x d rfl rfl) (Z3x (by simpa using h) λi y e hy he=>g (i + 1) y e (by simpa using hy) (by simpa using he))
theorem Reps.strs {H:Hp}:∀ (zs:List Str),Reps H (zs.map V.str) (zs.map PyData.str)
 | []=>.nil
 | z::zs=>.cons (.str z) (Reps.strs zs)
theorem DlE.reps {H:Hp}{es:List Addr}{ds:List (Int×Int×Deed)}(h:DlE H es ds):Reps H (es.map V.ref) (ds.map Jf):=by
 refine Z3x (by rw[List.length_map,List.length_map,h.1]) λi x d hx hd=>?_;rw[List.getElem?_map] at hd;obtain⟨e,ee,rfl⟩:=Option.map_eq_some_iff.mp hd;obtain⟨q,dd,q1,q2,q3⟩:=h.2 i e ee;rw[List.getElem?_map,q1] at hx;obtain rfl:=Option.some.inj hx;exact .tup q2 (by show 3 < sizeLine;decide) (.cons (.int _) (.cons (.int _) (.cons q3.rep .nil)))
theorem Z4Q (m:Ms):(ZL m).length≤1:=by
 unfold ZL
 split<;>simp
theorem J0 {A:Ad}{M:List Addr}{H H':Hp}{pg sn dl p p1 p2:Addr}{g:Pg}{m:Ms}{xs:List V}(mu:∀ a∈M,∃ o,H a=some o)(PA:PgAt A (imm M H) pg sn dl g)(hx:H dl=some (.lst xs))(hl:g.deeds.length≤900)(s:Same H H')(hp:H p=none)(hp1:H p1=none)(hp2:H p2=none)
 (e0:H' p=some (.tup [.ref p1,.int g.next,.str (YI m),.ref p2])) (e1:H' p1=some (.lst xs)) (e2:H' p2=some (.lst ((ZL m).map V.str))):Rep (imm M H') (.ref p) (Z10 g m):=by
 have fr:∀ q,H q=none→q ∉ M:=λq hq hm=>by
  obtain⟨o,e⟩:=mu q hm;rw[hq] at e;cases e
 have SF:Same (imm M H) (imm M H'):=Yd λd o e n=>⟨s _ _ e,n⟩;obtain⟨es,f1,f2,f3⟩:=PA.hd;have exs:xs=es.map V.ref:=by
  have:=(Y1 f1).2;rw[hx] at this;injection this with this
  injection this
 subst exs;have hd:DlE (imm M H') es g.deeds:=DlE.same ⟨f2,f3⟩ SF;refine .tup (XL (fr p hp) e0) (by show 4 < sizeLine;decide) (.cons (.lst (XL (fr p1 hp1) e1) (ZB (by rw[List.length_map];omega)) hd.reps) (.cons (.int _) (.cons (.str _) (.cons (.lst (XL (fr p2 hp2) e2) (ZB (by have:=Z4Q m;rw[List.length_map];omega)) (Reps.strs _)) .nil))))
theorem Z2o:∀ {ds:List PyData},(∀ d∈ds,PyData.canLay0 d=true)→PyData.canLayAll0 ds=true
 | [],_=>rfl
 | d::ds,h=>by
   simp only[PyData.canLayAll0,Bool.and_eq_true];exact⟨h d (by simp),Z2o λe he=>h e (by simp[he])⟩
theorem Z0n {n:Nat}:∀ {ds:List PyData},(∀ d∈ds,PyData.depth d≤n)→PyData.depthAll ds≤n
 | [],_=>by simp[PyData.depthAll]
 | d::ds,h=>by
   have a:=h d (by simp);have b:=Z0n (ds:=ds) λe he=>h e (by simp[he]);simp only[PyData.depthAll];omega
theorem Abc.ok {z:Str}(h:Abc z):PyData.strOk z=true:=by
 have all:∀ c∈abc.cps.toList,c < 0x110000:=by decide +kernel
 unfold PyData.strOk;rw[Array.all_eq_true_iff_forall_mem];intro c hc;exact decide_eq_true (all c (h c (by simpa using hc)))
theorem RunM.names {nm:Str}{m m':Ms}{ds:List (Int×Int×Deed)}(h:RunM nm m ds m'):∀ d∈ds,Xw d.2.2=nm:=by
 induction h with
 | nil=>intro d hd;simp at hd
 | cons a b c _ ih=>
   intro d hd
   rcases List.mem_cons.mp hd with rfl|hd
   ·exact a
   ·exact ih d hd
theorem Js {nm x y:Str}{t:Nat}{g:Pg}{m:Ms}(gg:GoodG nm x y t g)(r:RunM nm ⟨x,2,false,none⟩ g.deeds m)(hn:Gd nm)(hy:Gd y):SeqAt.shaped (Z10 g m)=true:=by
 have an:=hn.1.ok;have ay:=hy.1.ok;have s1:PyData.strOk "take" = true:=by decide +kernel
 have s2:PyData.strOk "word" = true:=by decide +kernel
 have s3:PyData.strOk "flee" = true:=by decide +kernel
 have ent:∀ e∈g.deeds.map Jf,PyData.canLay0 e=true∧PyData.depth e≤2:=λe he=>by
  obtain⟨d,hd,rfl⟩:=List.mem_map.mp he;have h1:=r.names d hd;have h2:=gg.takes d hd;obtain⟨n,day,dd⟩:=d;cases dd with
  | take a s=>
    obtain rfl:a=nm:=h1;obtain rfl:=h2 a s rfl;simp[Jf,Z0D,PyData.canLay0,PyData.canLayAll0,PyData.depth,PyData.depthAll,s1,an,ay]
  | word a=>
    obtain rfl:a=nm:=h1;simp[Jf,Z0D,PyData.canLay0,PyData.canLayAll0,PyData.depth,PyData.depthAll,s2,an]
  | flee a=>
    obtain rfl:a=nm:=h1;simp[Jf,Z0D,PyData.canLay0,PyData.canLayAll0,PyData.depth,PyData.depthAll,s3,an]
 have wds:∀ e∈(ZL m).map PyData.str,PyData.canLay0 e=true∧PyData.depth e≤0:=λe he=>by
  obtain⟨z,hz,rfl⟩:=List.mem_map.mp he;have:z=y:=by
   unfold ZL at hz
   rcases (gg.cl r).2 with e|⟨d,b,e⟩
   ·rw[e] at hz;simp at hz
   ·rw[e] at hz;cases b with
    | true=>simpa using hz
    | false=>simp at hz
  subst this;simp[PyData.canLay0,PyData.depth,ay]
 have lay1:=Z2o λe he=>(ent e he).1;have lay2:=Z2o λe he=>(wds e he).1;have dep1:=Z0n λe he=>(ent e he).2;have dep2:=Z0n λe he=>(wds e he).2;have wy:PyData.strOk (YI m)=true:=by
  unfold YI
  split
  ·decide +kernel
  ·split<;>decide +kernel
 unfold SeqAt.shaped Z10;rw[Bool.and_eq_true];refine⟨?_,decide_eq_true ?_⟩
 ·simp[PyData.canLay0,PyData.canLayAll0,lay1,lay2,wy]
 ·simp only[PyData.depth,PyData.depthAll];omega
noncomputable def HistAt (A:Ad)(F:Hp)(nm x y:Str)(q k:Addr)(i:Nat):Prop:=∃ sn dl g m,PgAt A F q sn dl g∧GoodG nm x y i g∧RunM nm ⟨x,2,false,none⟩ g.deeds m∧Rep F (.ref k) (Z10 g m)
theorem HistAt.same {A:Ad}{F F':Hp}{nm x y:Str}{q k:Addr}{i:Nat}(h:HistAt A F nm x y q k i)(s:Same F F'):HistAt A F' nm x y q k i:=by
 obtain⟨sn,dl,g,m,a,b,c,d⟩:=h;exact⟨sn,dl,g,m,a.same s,b,c,d.same s⟩
structure Wd (A:Ad)(nm x y:Str)(b l bk pa fu kp tp sL mL:Addr)(ns:List Int)(ss mn:List Str)(pn:Int)(all ks:List Addr)(e c:Nat)(H:Hp):Prop where
 box:BoxAt H b l ns
 book:∃ pg,all[c]? = some pg∧BookS A H bk pa fu pg (all.take c) (all.drop (c + 1)).reverse
 kept:H kp=some (.lst (ks.map V.ref))
 len:all.length=ks.length + 3 + e
 few:ks.length≤200∧e≤1
 hist:∀ i q k,all[i + 3]? = some q→ks[i]? = some k→HistAt A (imm [b,bk,pa,fu,kp] H) nm x y q k i
 zero:∃ p0 sn dl,all[0]? = some p0∧PgAt A (imm [b,bk,pa,fu,kp] H) p0 sn dl ⟨[],[],[],1⟩
 tpl:imm [b,bk,pa,fu,kp] H tp=some (.tup [.ref sL,.ref mL,.int pn])
 sls:imm [b,bk,pa,fu,kp] H sL=some (.lst ((x::y::ss).map V.str))
 mls:imm [b,bk,pa,fu,kp] H mL=some (.lst ((nm::mn).map V.str))
 ls:imm [b,bk,pa,fu,kp] H l=some (.lst (ns.map V.int))
 n1:pa≠fu
 n2:pa≠b
 n3:fu≠b
 n4:kp≠b
 n5:kp≠pa
 n6:kp≠fu
section
variable {A:Ad}{nm x y:Str}{b l bk pa fu kp tp sL mL:Addr}{ns:List Int}{ss mn:List Str}{pn:Int}{all ks:List Addr}{e c:Nat}{H:Hp}
theorem Wd.bkne (W:Wd A nm x y b l bk pa fu kp tp sL mL ns ss mn pn all ks e c H):bk≠b∧bk≠pa∧bk≠fu∧bk≠kp:=by
 obtain⟨pg,_,⟨dx,h1⟩,h2,h3⟩:=W.book;obtain⟨i0,l0,t0,s0,hb1,_⟩:=W.box;exact⟨Zi h1 hb1 (by simp),Zi h1 h2 (by simp),Zi h1 h3 (by simp),Zi h1 W.kept (by simp)⟩
theorem Wd.mu (W:Wd A nm x y b l bk pa fu kp tp sL mL ns ss mn pn all ks e c H):∀ a∈[b,bk,pa,fu,kp],∃ o,H a=some o:=λa ha=>by
 obtain⟨pg,_,⟨dx,h1⟩,h2,h3⟩:=W.book;obtain⟨o,hb⟩:=W.box.b;simp only[List.mem_cons,List.mem_nil_iff,or_false] at ha
 rcases ha with rfl|rfl|rfl|rfl|rfl
 ·exact⟨_,hb⟩
 ·exact⟨_,h1⟩
 ·exact⟨_,h2⟩
 ·exact⟨_,h3⟩
 ·exact⟨_,W.kept⟩
theorem Wd.by {fu':Addr}{all' ks':List Addr}{e' c':Nat}{H':Hp}(W:Wd A nm x y b l bk pa fu kp tp sL mL ns ss mn pn all ks e c H)(s:Same (imm [b,bk,pa,fu,kp] H) (imm [b,bk,pa,fu',kp] H'))(box:BoxAt H' b l ns)(book:∃ pg,all'[c']? = some pg∧BookS A H' bk pa fu' pg (all'.take c') (all'.drop (c' + 1)).reverse)
 (kept:H' kp=some (.lst (ks'.map V.ref))) (len:all'.length=ks'.length + 3 + e') (few:ks'.length≤200∧e'≤1) (hist:∀ i q k,all'[i + 3]? = some q→ks'[i]? = some k→(all[i + 3]? = some q∧ks[i]? = some k)∨HistAt A (imm [b,bk,pa,fu',kp] H') nm x y q k i) (zero:all'[0]? = all[0]?)
 (m1:pa≠fu') (m2:fu'≠b) (m3:kp≠fu'):Wd A nm x y b l bk pa fu' kp tp sL mL ns ss mn pn all' ks' e' c' H':=by
 obtain⟨p0,sn,dl,z1,z2⟩:=W.zero;refine⟨box,book,kept,len,few,λi q k h1 h2=>?_,⟨p0,sn,dl,by rw[zero];exact z1,z2.same s⟩,s _ _ W.tpl,s _ _ W.sls,s _ _ W.mls,s _ _ W.ls,m1,W.n2,m2,W.n4,W.n5,m3⟩
 rcases hist i q k h1 h2 with⟨a1,a2⟩|h
 ·exact (W.hist i q k a1 a2).same s
 ·exact h
theorem Wd.same {H':Hp}(W:Wd A nm x y b l bk pa fu kp tp sL mL ns ss mn pn all ks e c H)(s:Same H H'):Wd A nm x y b l bk pa fu kp tp sL mL ns ss mn pn all ks e c H':=by
 obtain⟨pg,h1,h2⟩:=W.book;exact W.by (Yd λd o e n=>⟨s _ _ e,n⟩) (W.box.more s) ⟨pg,h1,h2.same s⟩ (s _ _ W.kept) W.len W.few (λi q k h1 h2=>.inl ⟨h1,h2⟩) rfl W.n1 W.n3 W.n6
theorem Wd.keepB {H':Hp}(W:Wd A nm x y b l bk pa fu kp tp sL mL ns ss mn pn all ks e c H)(B:BoxAt H' b l ns)(k:Keep b H H'):Wd A nm x y b l bk pa fu kp tp sL mL ns ss mn pn all ks e c H':=by
 obtain⟨pg,h1,⟨dx,h2⟩,h3,h4⟩:=W.book;exact W.by (Yd λd o e n=>⟨k _ _ e (λz=>n (by simp[z])),n⟩) B ⟨pg,h1,⟨dx,k _ _ h2 W.bkne.1⟩,k _ _ h3 W.n2,k _ _ h4 W.n3⟩ (k _ _ W.kept W.n4) W.len W.few (λi q k h1 h2=>.inl ⟨h1,h2⟩) rfl W.n1 W.n3 W.n6
theorem Wd.moved {c':Nat}{pg':Addr}{H':Hp}(W:Wd A nm x y b l bk pa fu kp tp sL mL ns ss mn pn all ks e c H)(h:all[c']? = some pg')(B:BookS A H' bk pa fu pg' (all.take c') (all.drop (c' + 1)).reverse)(k:Jl bk pa fu H H'):Wd A nm x y b l bk pa fu kp tp sL mL ns ss mn pn all ks e c' H':=by
 obtain⟨nb1,nb2,nb3,nb4⟩:=W.bkne;have hl:=Y1 W.ls;simp only[List.mem_cons,List.mem_nil_iff,or_false,not_or] at hl;obtain⟨i0,l0,t0,s0,hb1,hb2,hb3⟩:=W.box;refine W.by (Yd λd o e n=>?_) ⟨i0,l0,t0,s0,k _ _ hb1 (Ne.symm nb1) (Ne.symm W.n2) (Ne.symm W.n3),k _ _ hb2 hl.1.2.1 hl.1.2.2.1 hl.1.2.2.2.1,hb3⟩ ⟨pg',h,B⟩ (k _ _ W.kept (Ne.symm nb4) W.n5 W.n6) W.len W.few (λi q k h1 h2=>.inl ⟨h1,h2⟩) rfl W.n1 W.n3 W.n6;have n':=n;simp only[List.mem_cons,List.mem_nil_iff,or_false,not_or] at n;exact⟨k _ _ e n.2.1 n.2.2.1 n.2.2.2.1,n'⟩
theorem Z0l {all:List Addr}{pg:Addr}(hp:all[c]? = some pg):all.drop c=pg::all.drop (c + 1):=by
 obtain⟨h1,z⟩:=List.getElem?_eq_some_iff.mp hp;rw[List.drop_eq_getElem_cons h1,z]
theorem Z5K {all:List Addr}{pg:Addr}(hc:c + 1=all.length)(hp:all[c]? = some pg):all.take c++[pg]=all:=by
 have e:all.drop c=[pg]:=by rw[Z0l hp,List.drop_eq_nil_of_le (by omega)]
 rw[←e,List.take_append_drop]
theorem Z2M {all:List Addr}{pg:Addr}(hp:all[c]? = some pg):all.take (c + 1)=all.take c++[pg]:=by
 rw[List.take_succ,hp];rfl
theorem Wd.turn {H1 H':Hp}{pg pg' sn' dl' fu':Addr}{g':Pg}(W:Wd A nm x y b l bk pa fu kp tp sL mL ns ss mn pn all ks 0 c H)(hc:c + 1=all.length)(hpg:all[c]? = some pg)(B1:BoxAt H1 b l ns)(k1:Keep b H H1)(h1:sn' ∉ [b,bk,pa,kp])(h2:dl' ∉ [b,bk,pa,kp])(PA:PgAt A H1 pg' sn' dl' g')(hf:H1 fu'=none)
 (B':BookS A H' bk pa fu' pg' (all.take c++[pg]) []) (k2:JX bk pa H1 H') :
 Wd A nm x y b l bk pa fu' kp tp sL mL ns ss mn pn (all++[pg']) ks 1 (c + 1) H'∧PgAt A (imm [b,bk,pa,fu',kp] H') pg' sn' dl' g':=by
 obtain⟨nb1,nb2,nb3,nb4⟩:=W.bkne;obtain⟨pg0,hpg0,⟨dx,a1⟩,a2,a3⟩:=W.book;have hl:=Y1 W.ls;simp only[List.mem_cons,List.mem_nil_iff,or_false,not_or] at hl;obtain⟨i0,l0,t0,s0,hb1,hb2,hb3⟩:=B1;have c1:=k1 _ _ a1 nb1;have c2:=k1 _ _ a2 W.n2;have c3:=k1 _ _ W.kept W.n4;have ne':∀ d o,H1 d=some o→d≠fu':=λd o e=>Z6 e hf;rw[Z5K hc hpg] at B';constructor
 ·refine W.by (Yd λd o e n=>?_) ⟨i0,l0,t0,s0,k2 _ _ hb1 (Ne.symm nb1) (Ne.symm W.n2),k2 _ _ hb2 hl.1.2.1 hl.1.2.2.1,hb3⟩ ⟨pg',?_,?_⟩ (k2 _ _ c3 (Ne.symm nb4) W.n5) (by simp[W.len]) ⟨W.few.1,by omega⟩ (λi q k z1 z2=>.inl ⟨?_,z2⟩) ?_ (ne' _ _ c2) (Ne.symm (ne' _ _ hb1)) (ne' _ _ c3)
  ·simp only[List.mem_cons,List.mem_nil_iff,or_false,not_or] at n ⊢;have e1:=k1 _ _ e n.1;exact⟨k2 _ _ e1 n.2.1 n.2.2.1,n.1,n.2.1,n.2.2.1,ne' _ _ e1,n.2.2.2.2⟩
  ·rw[hc,List.getElem?_append_right (Nat.le_refl _),Nat.sub_self];rfl
  ·have e1:(all++[pg']).take (c + 1)=all:=by rw[hc,List.take_left]
   have e2:(all++[pg']).drop (c + 1 + 1)=[]:=List.drop_eq_nil_of_le (by simp;omega);rw[e1,e2];exact B'
  ·have hi:i < ks.length:=(List.getElem?_eq_some_iff.mp z2).1;rw[List.getElem?_append_left (by rw[W.len];omega)] at z1;exact z1
  ·rw[List.getElem?_append_left (by rw[W.len];omega)]
 ·refine PA.same41 λd o ed hd=>?_;have nd:d ∉ [b,bk,pa,kp]:=by
   rcases hd with rfl|rfl|rfl|⟨hq,hq2⟩
   ·obtain⟨dp,mt,ct,kvs,p1,_⟩:=PA.at';simp only[List.mem_cons,List.mem_nil_iff,or_false,not_or];refine⟨Zi p1 hb1 (by simp),Zi p1 c1 λz=>?_,Zi p1 c2 (by simp),Zi p1 c3 (by simp)⟩;injection z with _ _ z
    exact absurd (congrArg List.length z) (show ¬ (5=3) by decide)
   ·exact h1
   ·exact h2
   ·simp only[List.mem_cons,List.mem_nil_iff,or_false,not_or];exact⟨Zi ed hb1 (hq _),Zi ed c1 (hq2 _ _ _),Zi ed c2 (hq _),Zi ed c3 (hq _)⟩
  have nf:=ne' _ _ ed;refine XL ?_ ?_
  ·simp only[List.mem_cons,List.mem_nil_iff,or_false,not_or] at nd ⊢;exact⟨nd.1,nd.2.1,nd.2.2.1,nf,nd.2.2.2⟩
  ·simp only[List.mem_cons,List.mem_nil_iff,or_false,not_or] at nd;exact k2 _ _ ed nd.2.1 nd.2.2.1
theorem Wd.push {p q:Addr}(W:Wd A nm x y b l bk pa fu kp tp sL mL ns ss mn pn all ks 1 c H)(few:ks.length < 200)(hq:all[ks.length + 3]? = some q)(h:HistAt A (imm [b,bk,pa,fu,kp] H) nm x y q p ks.length) :
 Wd A nm x y b l bk pa fu kp tp sL mL ns ss mn pn all (ks++[p]) 0 c (upd H kp (.lst (ks.map V.ref++[.ref p]))):=by
 obtain⟨nb1,nb2,nb3,nb4⟩:=W.bkne;obtain⟨pg0,hpg0,⟨dx,a1⟩,a2,a3⟩:=W.book;have hl:=Y1 W.ls;simp only[List.mem_cons,List.mem_nil_iff,or_false,not_or] at hl;obtain⟨i0,l0,t0,s0,hb1,hb2,hb3⟩:=W.box;have S:Same (imm [b,bk,pa,fu,kp] H) (imm [b,bk,pa,fu,kp] (upd H kp (.lst (ks.map V.ref++[.ref p])))):=Yd λd o e n=>by
  have n':=n;simp only[List.mem_cons,List.mem_nil_iff,or_false,not_or] at n;exact⟨by rw[Z2 n.2.2.2.2];exact e,n'⟩
 refine W.by S ⟨i0,l0,t0,s0,by rw[Z2 (Ne.symm W.n4)];exact hb1,by rw[Z2 hl.1.2.2.2.2];exact hb2,hb3⟩ ⟨pg0,hpg0,⟨dx,by rw[Z2 nb4];exact a1⟩,by rw[Z2 (Ne.symm W.n5)];exact a2,by rw[Z2 (Ne.symm W.n6)];exact a3⟩ (by rw[Z1,List.map_append];rfl) (by rw[W.len];simp) ⟨by simp;omega,by omega⟩ (λi q2 k z1 z2=>?_) rfl W.n1 W.n3 W.n6
 by_cases hi:i < ks.length
 ·rw[List.getElem?_append_left hi] at z2;exact .inl ⟨z1,z2⟩
 ·have hi2:i=ks.length:=by
   have:=(List.getElem?_eq_some_iff.mp z2).1;simp at this;omega
  subst hi2;rw[List.getElem?_append_right (Nat.le_refl _),Nat.sub_self] at z2;cases z2;rw[hq] at z1;cases z1;exact .inr (h.same S)
end
structure Wp (A:Ad)(nm x y:Str)(b l bk pa fu pg tp sL mL:Addr)(ns:List Int)(ss mn:List Str)(pn:Int)(ps:List Addr)(g:Pg)(H:Hp):Prop where
 box:BoxAt H b l ns
 book:BookS A H bk pa fu pg ps []
 page:∃ sn dl,PgAt A (imm [b,bk,pa,fu] H) pg sn dl g
 zero:∃ p0 sn dl,(ps++[pg])[0]? = some p0∧PgAt A (imm [b,bk,pa,fu] H) p0 sn dl ⟨[],[],[],1⟩
 tpl:imm [b,bk,pa,fu] H tp=some (.tup [.ref sL,.ref mL,.int pn])
 sls:imm [b,bk,pa,fu] H sL=some (.lst ((x::y::ss).map V.str))
 mls:imm [b,bk,pa,fu] H mL=some (.lst ((nm::mn).map V.str))
 ls:imm [b,bk,pa,fu] H l=some (.lst (ns.map V.int))
 n1:pa≠fu
 n2:pa≠b
 n3:fu≠b
section
variable {A:Ad}{nm x y:Str}{b l bk pa fu pg kp tp sL mL:Addr}{ns:List Int}{ss mn:List Str}{pn:Int}{ps:List Addr}{g:Pg}{H:Hp}
theorem Wp.bkne (W:Wp A nm x y b l bk pa fu pg tp sL mL ns ss mn pn ps g H):bk≠b∧bk≠pa∧bk≠fu:=by
 obtain⟨⟨dx,h1⟩,h2,h3⟩:=W.book;obtain⟨i0,l0,t0,s0,hb1,_⟩:=W.box;exact⟨Zi h1 hb1 (by simp),Zi h1 h2 (by simp),Zi h1 h3 (by simp)⟩
theorem Wp.out (W:Wp A nm x y b l bk pa fu pg tp sL mL ns ss mn pn ps g H){d q:Addr}{o:HO}(hd:imm [b,bk,pa,fu] H q=some o)(h:d=q∨H d=none):d ∉ [b,bk,pa]:=by
 obtain⟨⟨dx,h1⟩,h2,h3⟩:=W.book;obtain⟨i0,l0,t0,s0,hb1,_⟩:=W.box;simp only[List.mem_cons,List.mem_nil_iff,or_false,not_or]
 rcases h with rfl|h
 ·have:=(Y1 hd).1;simp only[List.mem_cons,List.mem_nil_iff,or_false,not_or] at this;exact⟨this.1,this.2.1,this.2.2.1⟩
 ·exact⟨Ne.symm (Z6 hb1 h),Ne.symm (Z6 h1 h),Ne.symm (Z6 h2 h)⟩
theorem Wp.turn {H1 H':Hp}{pg' sn' dl' fu':Addr}{g':Pg}(W:Wp A nm x y b l bk pa fu pg tp sL mL ns ss mn pn ps g H)(s1:Same H H1)(h1:sn' ∉ [b,bk,pa])(h2:dl' ∉ [b,bk,pa])(PA:PgAt A H1 pg' sn' dl' g')(hf:H1 fu'=none)
 (B':BookS A H' bk pa fu' pg' (ps++[pg]) []) (k2:JX bk pa H1 H'):Wp A nm x y b l bk pa fu' pg' tp sL mL ns ss mn pn (ps++[pg]) g' H':=by
 obtain⟨nb1,nb2,nb3⟩:=W.bkne;obtain⟨⟨dx,a1⟩,a2,a3⟩:=W.book;have hl:=Y1 W.ls;simp only[List.mem_cons,List.mem_nil_iff,or_false,not_or] at hl;obtain⟨i0,l0,t0,s0,hb1,hb2,hb3⟩:=W.box.more s1;have c1:=s1 _ _ a1;have c2:=s1 _ _ a2;have ne':∀ d o,H1 d=some o→d≠fu':=λd o e=>Z6 e hf;have S:Same (imm [b,bk,pa,fu] H) (imm [b,bk,pa,fu'] H'):=Yd λd o e n=>by
  simp only[List.mem_cons,List.mem_nil_iff,or_false,not_or] at n ⊢;have e1:=s1 _ _ e;exact⟨k2 _ _ e1 n.2.1 n.2.2.1,n.1,n.2.1,n.2.2.1,ne' _ _ e1⟩
 obtain⟨p0,sn0,dl0,z1,z2⟩:=W.zero;refine⟨⟨i0,l0,t0,s0,k2 _ _ hb1 (Ne.symm nb1) (Ne.symm W.n2),k2 _ _ hb2 hl.1.2.1 hl.1.2.2.1,hb3⟩,B',⟨sn',dl',?_⟩,⟨p0,sn0,dl0,?_,z2.same S⟩,S _ _ W.tpl,S _ _ W.sls,S _ _ W.mls,S _ _ W.ls,ne' _ _ c2,W.n2,Ne.symm (ne' _ _ hb1)⟩
 ·refine PA.same41 λd o ed hd=>?_;have nd:d ∉ [b,bk,pa]:=by
   rcases hd with rfl|rfl|rfl|⟨hq,hq2⟩
   ·obtain⟨dp,mt,ct,kvs,p1,_⟩:=PA.at';simp only[List.mem_cons,List.mem_nil_iff,or_false,not_or];refine⟨Zi p1 hb1 (by simp),Zi p1 c1 λz=>?_,Zi p1 c2 (by simp)⟩;injection z with _ _ z
    exact absurd (congrArg List.length z) (show ¬ (5=3) by decide)
   ·exact h1
   ·exact h2
   ·simp only[List.mem_cons,List.mem_nil_iff,or_false,not_or];exact⟨Zi ed hb1 (hq _),Zi ed c1 (hq2 _ _ _),Zi ed c2 (hq _)⟩
  have nf:=ne' _ _ ed;simp only[List.mem_cons,List.mem_nil_iff,or_false,not_or] at nd;refine XL ?_ (k2 _ _ ed nd.2.1 nd.2.2);simp only[List.mem_cons,List.mem_nil_iff,or_false,not_or];exact⟨nd.1,nd.2.1,nd.2.2,nf⟩
 ·rw[List.getElem?_append_left (by simp)];exact z1
theorem Wp.same {H':Hp}(W:Wp A nm x y b l bk pa fu pg tp sL mL ns ss mn pn ps g H)(s:Same H H'):Wp A nm x y b l bk pa fu pg tp sL mL ns ss mn pn ps g H':=by
 have S:Same (imm [b,bk,pa,fu] H) (imm [b,bk,pa,fu] H'):=Yd λd o e n=>⟨s _ _ e,n⟩;obtain⟨p0,sn0,dl0,z1,z2⟩:=W.zero;obtain⟨sn,dl,PA⟩:=W.page;exact⟨W.box.more s,W.book.same s,⟨sn,dl,PA.same S⟩,⟨p0,sn0,dl0,z1,z2.same S⟩,S _ _ W.tpl,S _ _ W.sls,S _ _ W.mls,S _ _ W.ls,W.n1,W.n2,W.n3⟩
theorem Wp.mu (W:Wp A nm x y b l bk pa fu pg tp sL mL ns ss mn pn ps g H):∀ a∈[b,bk,pa,fu],∃ o,H a=some o:=λa ha=>by
 obtain⟨⟨dx,h1⟩,h2,h3⟩:=W.book;obtain⟨o,hb⟩:=W.box.b;simp only[List.mem_cons,List.mem_nil_iff,or_false] at ha
 rcases ha with rfl|rfl|rfl|rfl
 ·exact⟨_,hb⟩
 ·exact⟨_,h1⟩
 ·exact⟨_,h2⟩
 ·exact⟨_,h3⟩
theorem Wp.wd {p:Addr}{m:Ms}(W:Wp A nm x y b l bk pa fu pg tp sL mL ns ss mn pn ps g H)(hps:ps.length=3)(hk:H kp=none)(gg:GoodG nm x y 0 g)(run:RunM nm ⟨x,2,false,none⟩ g.deeds m)(r:Rep (imm [b,bk,pa,fu] H) (.ref p) (Z10 g m)) :
 Wd A nm x y b l bk pa fu kp tp sL mL ns ss mn pn (ps++[pg]) [p] 0 3 (upd H kp (.lst [.ref p])):=by
 have s:=Same.new hk (HO.lst [.ref p]);have nm':∀ a∈[b,bk,pa,fu],a≠kp:=λa ha=>by
  obtain⟨o,e⟩:=W.mu a ha;exact Z6 e hk
 have S:Same (imm [b,bk,pa,fu] H) (imm [b,bk,pa,fu,kp] (upd H kp (.lst [.ref p]))):=Yd λd o e n=>by
  refine⟨s _ _ e,?_⟩;simp only[List.mem_cons,List.mem_nil_iff,or_false,not_or] at n ⊢;exact⟨n.1,n.2.1,n.2.2.1,n.2.2.2,Z6 e hk⟩
 obtain⟨p0,sn0,dl0,z1,z2⟩:=W.zero;obtain⟨sn,dl,PA⟩:=W.page;have e3:(ps++[pg])[3]? = some pg:=by rw[←hps,List.getElem?_append_right (Nat.le_refl _),Nat.sub_self];rfl
 refine⟨W.box.more s,⟨pg,e3,?_⟩,Z1,by simp[hps],⟨by simp,by omega⟩,λi q k h1 h2=>?_,⟨p0,sn0,dl0,z1,z2.same S⟩,S _ _ W.tpl,S _ _ W.sls,S _ _ W.mls,S _ _ W.ls,W.n1,W.n2,W.n3,Ne.symm (nm' b (by simp)),Ne.symm (nm' pa (by simp)),Ne.symm (nm' fu (by simp))⟩
 ·have e1:(ps++[pg]).take 3=ps:=by rw[←hps,List.take_left]
  have e2:(ps++[pg]).drop (3 + 1)=[]:=List.drop_eq_nil_of_le (by simp[hps]);rw[e1,e2];exact W.book.same s
 ·have hi:i=0:=by
   have:=(List.getElem?_eq_some_iff.mp h2).1;simp at this;omega
  subst hi;rw[e3] at h1;cases h1;obtain rfl:p=k:=by simpa using h2
  exact⟨sn,dl,g,m,PA.same S,gg,run,r.same S⟩
end
section
variable {A:Ad}{nm x y:Str}{b l bk pa fu kp tp sL mL:Addr}{ns:List Int}{ss mn:List Str}{pn:Int}{all ks:List Addr}{e c i:Nat}{H:Hp}
theorem Wd.out (W:Wd A nm x y b l bk pa fu kp tp sL mL ns ss mn pn all ks e c H){d q:Addr}{o:HO}(hd:imm [b,bk,pa,fu,kp] H q=some o)(h:d=q∨H d=none):d ∉ [b,bk,pa,kp]:=by
 have mu:=W.mu;have n:d ∉ [b,bk,pa,fu,kp]:=by
  rcases h with rfl|h
  ·exact (Y1 hd).1
  ·intro z;obtain⟨o,e⟩:=mu d z;rw[h] at e;cases e
 simp only[List.mem_cons,List.mem_nil_iff,or_false,not_or] at n ⊢;exact⟨n.1,n.2.1,n.2.2.1,n.2.2.2.2⟩
theorem Wd.see (W:Wd A nm x y b l bk pa fu kp tp sL mL ns ss mn pn all ks e (i + 3) H)(hi:i < ks.length):∃ (pg k sn dl:Addr) (g:Pg) (m:Ms) (es:List Addr),all[i + 3]? = some pg∧ks[i]? = some k∧BookS A H bk pa fu pg (all.take (i + 3)) (all.drop (i + 3 + 1)).reverse∧PgAt A (imm [b,bk,pa,fu,kp] H) pg sn dl g∧imm [b,bk,pa,fu,kp] H dl=some (.lst (es.map V.ref))∧GoodG nm x y i g∧RunM nm ⟨x,2,false,none⟩ g.deeds m∧Rep (imm [b,bk,pa,fu,kp] H) (.ref k) (Z10 g m):=by
 obtain⟨pg,h1,B⟩:=W.book;have hk:ks[i]? = some ks[i]:=List.getElem?_eq_getElem hi;obtain⟨sn,dl,g,m,PA,gg,r,rp⟩:=W.hist i pg _ h1 hk;obtain⟨es,f1,_⟩:=id PA.hd;exact⟨pg,_,sn,dl,g,m,es,h1,hk,B,PA,f1,gg,r,rp⟩
theorem Wd.back {ps0:List Addr}{pg p:Addr}{H':Hp}(W:Wd A nm x y b l bk pa fu kp tp sL mL ns ss mn pn all ks e (c + 1) H)(h1:all[c + 1]? = some pg)(ep:all.take (c + 1)=ps0++[p])(B:BookS A H' bk pa fu p ps0 ((all.drop (c + 1 + 1)).reverse++[pg]))(k:Jl bk pa fu H H') :
 Wd A nm x y b l bk pa fu kp tp sL mL ns ss mn pn all ks e c H':=by
 have hl:c < all.length:=by have:=(List.getElem?_eq_some_iff.mp h1).1;omega
 have hc:all[c]? = some all[c]:=List.getElem?_eq_getElem hl;rw[Z2M hc] at ep;obtain⟨e1,e2⟩:=List.append_inj' ep rfl;have e3:all[c]=p:=by simpa using e2
 refine W.moved (pg':=p) (by rw[hc,e3]) ?_ k;rw[e1,Z0l h1,List.reverse_cons];exact B
theorem Wd.onward {fs0:List Addr}{pg p:Addr}{H':Hp}(W:Wd A nm x y b l bk pa fu kp tp sL mL ns ss mn pn all ks e c H)(h1:all[c]? = some pg)(hc:c + 1 < all.length)(ep:(all.drop (c + 1)).reverse=fs0++[p])(B:BookS A H' bk pa fu p (all.take c++[pg]) fs0)(k:Jl bk pa fu H H') :
 Wd A nm x y b l bk pa fu kp tp sL mL ns ss mn pn all ks e (c + 1) H':=by
 have hn:all[c + 1]? = some all[c + 1]:=List.getElem?_eq_getElem hc;rw[Z0l hn,List.reverse_cons] at ep;obtain⟨e1,e2⟩:=List.append_inj' ep rfl;have e3:all[c + 1]=p:=by simpa using e2
 refine W.moved (pg':=p) (by rw[hn,e3]) ?_ k;rw[Z2M h1,e1];exact B
end
noncomputable def Z1V (K:W.Frag):Sp:=λvs H Q _=>∃ (a:Addr) (ns:List Int),vs=[.ref a]∧SqL K H a (ns.map V.int)∧ns.length≤63∧∀ H',Q (.bl true) H'
theorem Z28:(10:Int) ^ (6:Int).toNat=1000000:=by decide
theorem Z3A {ta:TA}{σ:L2.St}{H:Hp}{R:It→Hp→Prop}(q:ta σ H λvs H1=>∃ j:Int,vs=[.int j]∧-(2 ^ 62)≤j∧j < 2 ^ 62∧R (Itr 0 j.toNat) H1):Z6x ta σ H R:=q
theorem Z6Z {ta:TA}{σ:L2.St}{H:Hp}{R:It→Hp→Prop}(q:ta σ H λvs H1=>∃ i j:Int,vs=[.int i,.int j]∧(-(2 ^ 62)≤i∧i < 2 ^ 62∧-(2 ^ 62)≤j∧j < 2 ^ 62)∧R (Itr i (j - i).toNat) H1):Z6v ta σ H R:=q
theorem Z6F {ta:TA}{σ:L2.St}{H:Hp}{R:It→Hp→Prop}(q:ta σ H λvs H1=>∃ (i j:Int) (n:Nat),vs=[.int i,.int j,.int (-1)]∧(n:Int)=i - j∧-(2 ^ 40)≤j∧i≤2 ^ 40∧R (Z0p i n) H1):Z6o ta σ H R:=q
theorem Wp.first {A:Ad}{nm x y:Str}{b l bk dxb pa fu pg sn dl tp sL mL:Addr}{ns:List Int}{ss mn:List Str}{pn:Int}{H2 H3 H4:Hp}(B2:BoxAt H2 b l ns)(htp:H2 tp=some (.tup [.ref sL,.ref mL,.int pn]))(hsL:H2 sL=some (.lst ((x::y::ss).map V.str)))(hmL:H2 mL=some (.lst ((nm::mn).map V.str)))
 (hbk:H2 bk=none) (hdx:H2 dxb=none) (s3:Same (upd (upd H2 dxb (.own bk)) bk (.ins A.Z8s dxb [])) H3) (PA:PgAt A H3 pg sn dl ⟨[],[],[],1⟩) (hsn:upd (upd H2 dxb (.own bk)) bk (.ins A.Z8s dxb []) sn=none) (hdl:upd (upd H2 dxb (.own bk)) bk (.ins A.Z8s dxb []) dl=none)
 (hpa:H3 pa=none) (hfu:H3 fu=none) (npf:pa≠fu) (B4:BookS A H4 bk pa fu pg [] []) (k4:∀ d o,H3 d=some o→d≠bk→H4 d=some o):Wp A nm x y b l bk pa fu pg tp sL mL ns ss mn pn [] ⟨[],[],[],1⟩ H4:=by
 have s2:Same H2 (upd (upd H2 dxb (.own bk)) bk (.ins A.Z8s dxb [])):=λd o e=>by rw[Z2 (Z6 e hbk),Z2 (Z6 e hdx)];exact e
 have S3:=s2.trans s3;obtain⟨i0,l0,t0,s0,hb1,hb2,hb3⟩:=id B2;have nbb:b≠bk:=Z6 hb1 hbk;have bk3:H3 bk=some (.ins A.Z8s dxb []):=s3 _ _ Z1;have im:∀ d o,H3 d=some o→d≠b→d≠bk→imm [b,bk,pa,fu] H4 d=some o:=λd o e n1 n2=>by
  refine XL ?_ (k4 _ _ e n2);simp only[List.mem_cons,List.mem_nil_iff,or_false,not_or];exact⟨n1,n2,Z6 e hpa,Z6 e hfu⟩
 have im2:∀ d o,H2 d=some o→d≠b→imm [b,bk,pa,fu] H4 d=some o:=λd o e n=>im d o (S3 _ _ e) n (Z6 e hbk);have PI:PgAt A (imm [b,bk,pa,fu] H4) pg sn dl ⟨[],[],[],1⟩:=PA.same41 λd o ed hd=>by
  rcases hd with rfl|rfl|rfl|⟨hq,hq2⟩
  ·obtain⟨dp,mt,ct,kvs,p1,_⟩:=PA.at';refine im d o ed (Zi p1 (S3 _ _ hb1) (by simp)) (Zi p1 bk3 λz=>?_);injection z with _ _ z
   exact absurd (congrArg List.length z) (show ¬ (5=0) by decide)
  ·exact im d o ed (Ne.symm (Z6 (s2 _ _ hb1) hsn)) (Ne.symm (Z6 Z1 hsn))
  ·exact im d o ed (Ne.symm (Z6 (s2 _ _ hb1) hdl)) (Ne.symm (Z6 Z1 hdl))
  ·exact im d o ed (Zi ed (S3 _ _ hb1) (hq _)) (Zi ed bk3 (hq2 _ _ _))
 refine⟨⟨i0,l0,t0,s0,k4 _ _ (S3 _ _ hb1) nbb,k4 _ _ (S3 _ _ hb2) (Z6 hb2 hbk),hb3⟩,B4,⟨sn,dl,PI⟩,⟨pg,sn,dl,rfl,PI⟩,im2 _ _ htp (Zi htp hb1 (by simp)),im2 _ _ hsL (B2.ne_strs hsL),im2 _ _ hmL (B2.ne_strs hmL),im2 _ _ hb2 hb3.2.2,npf,Ne.symm (Z6 (S3 _ _ hb1) hpa),Ne.symm (Z6 (S3 _ _ hb1) hfu)⟩
theorem GoodG.first (nm x y:Str):GoodG nm x y 0 ⟨[x,y],[(nm,x,2)],[],1⟩:=
 ⟨rfl,rfl,.nil,λd hd=>by simp at hd,.nil,λd hd=>by simp at hd,by simp,λd hd=>by simp at hd,_,.nil⟩
section
variable {P:Program}{w:World}{K:W.Frag}{mg:Str→Option Value}{base:Heap}{A:Ad}
theorem Z7K (T:Txt K mg A)(TD:DictF w K A.Z8y (Zs A)):FnOk P w K mg base CX0 11 A.ZfI A.Zfc ["_law_script"] (Z1V K):=by
 have Zg6:=@Z6J P w K mg base A T;have Z8F:=@Jm P w K mg base A T;have Zg5:=@Z63 P w K mg base A T;have Zfr:=@Z2s P w K mg base A T;have ZdF:=@Z2a P w K mg base A T;have ZfH:=@Z37 P w K mg base A T;have Zf6:=@Z1K P w K mg base A T;have ZdC:=@Z7a P w K mg base A T TD;have Zg4:=@Z5F P w K mg base A T TD;have Z94:=@Z0J P w K mg base A T;refine T.Zg0.ok Z9N (λvs H Q E h=>?_) (λcdv A' outer s H vs Q E hr h=>?_)
 ·obtain⟨a,ns,rfl,_⟩:=h;rfl
 ·obtain⟨a,ns,rfl,hS,hns,k⟩:=h;have hu:=Z7O hr;refine⟨_,(Z7 (Zq (i:=1) Z9N.nd rfl (Or.inl rfl) (Za Zg6 (hr.mono (by decide)) rfl T.ZfP T.Zfb.kp T.ZfS .nil Z9 (Z0 (pv 0) Z4)))
   (Z7 (Zq (i:=2) Z9N.nd rfl (Or.inl rfl) (Za Zg5 (hr.mono (by decide)) rfl T.ZfD T.ZeM.kp T.ZfC .nil Z9 (Z0 (pv 1) Z4)))
   (Z7 (Zq (i:=3) Z9N.nd rfl (Or.inl rfl) (Z5U T.ZfA Zfr (hr.mono (by decide)) rfl T.ZfR T.ZdW .nil Z9))
   (Z7 (Zh (Zy (pv 3) T.Z8t ⟨T.Zc6,T.Zba,T.Zas.kp⟩ ZdF (hr.mono (by decide)) T.Zcl .nil Z9 (Z0 (Zg (ixL (K:=K) rfl) (Zg (ixT (K:=K) rfl) (pv 2) Z5 (λ_ _=>rfl)) Z5 (λ_ _=>rfl)) Z4)))
   (Z7 (Zh (Zy (pv 3) T.Z8t ⟨T.Zc6,T.Zba,T.Zas.kp⟩ ZdF (hr.mono (by decide)) T.Zcl .nil Z9 (Z0 (Zg (ixL (K:=K) rfl) (Zg (ixT (K:=K) rfl) (pv 2) Z5 (λ_ _=>rfl)) Z5 (λ_ _=>rfl)) Z4)))
   (Z7 (Zh (Zy (pv 3) T.Z8t ⟨T.Zew,T.Ze8,T.ZcZ.kp⟩ ZfH (hr.mono (by decide)) T.Zer .nil Z9 (Z0 (Zg (ixL (K:=K) rfl) (Zg (ixT (K:=K) rfl) (pv 2) Z5 (λ_ _=>rfl)) Z5 (λ_ _=>rfl)) (Z0 (Zg (ixL (K:=K) rfl) (Zg (ixT (K:=K) rfl) (pv 2) Z5 (λ_ _=>rfl)) Z5 (λ_ _=>rfl)) (Z0 Z5 Z4)))))
   (Z7 (Zq (i:=4) Z9N.nd rfl (Or.inl rfl) (Y0 (Z0 (Za ZdC (hr.mono (by decide)) rfl T.Zcy T.Zbz.kp T.Zcz .nil Z9 (Z0 (pv 3) (Z0 (Zg (ixL (K:=K) rfl) (Zg (ixT (K:=K) rfl) (pv 2) Z5 (λ_ _=>rfl)) Z5 (λ_ _=>rfl)) (Z0 (Zl XC Z5 Z5) Z4)))) Z4)))
   (Z7 (X1 PassesOwn.never rfl (XT rfl T.Zae (Z0 (Zl Yl Z5 (Za Z8F (hr.mono (by decide)) rfl T.Z8L T.Z8H.kp T.Z8K .nil Z9 (Z0 (pv 1) (Z0 Z5 Z4)))) Z4)) (Zu (i:=5) Z9N.nd rfl (Or.inl rfl)) (Z7 (Zh (Za Zg4 (hr.mono (by decide)) rfl T.Zfz T.ZeO.kp T.ZfB .nil Z9 (Z0 (pv 1) (Z0 (pv 3) (Z0 (Zg (ixL (K:=K) rfl) (Zg (ixT (K:=K) rfl) (pv 2) Z5 (λ_ _=>rfl)) Z5 (λ_ _=>rfl)) (Z0 (Zg (ixL (K:=K) rfl) (Zg (ixT (K:=K) rfl) (pv 2) Z5 (λ_ _=>rfl)) Z5 (λ_ _=>rfl)) (Z0 (pv 5) Z4)))))))
   (Z8 (Zh (Jx PySem.F.plainAttrs_list PySem.F.slot_list_append PySem.F.type_list_append Ya (pv 4) (Z0 (Za ZdC (hr.mono (by decide)) rfl T.Zcy T.Zbz.kp T.Zcz .nil Z9 (Z0 (pv 3) (Z0 (Zg (ixL (K:=K) rfl) (Zg (ixT (K:=K) rfl) (pv 2) Z5 (λ_ _=>rfl)) Z5 (λ_ _=>rfl)) (Z0 (Zl XC Z5 Z5) Z4)))) Z4))))))
   (Z7 (X1 PassesOwn.never rfl (Z5h rfl T.Zae (Z0 (Zl Z5b (ZA (XV (K:=K) rfl) rfl T.Z9d PySem.boot_len (Z0 (pv 4) Z4)) Z5) (Z0 (Z01 Jb Z5) (Z0 (Z01 Jb Z5) Z4)))) (Zu (i:=6) Z9N.nd rfl (Or.inl rfl)) (Z7 (Zr (Xd (Xb (Za Z94 (hr.mono (by decide)) rfl T.Z8U T.Z8M.kp T.Z8S .nil Z9 (Z0 (pv 3) (Z0 Zw Z4))))) (Z8 (Zj Xo)) Zm)
   (Z8 (Zr (PW.pt (J9 (Zk Y9 (Zl Yo (pv 6) Z5) Z5 (Zp _)) (Jh (Zk (Z2B hu) (Za ZdC (hr.mono (by decide)) rfl T.Zcy T.Zbz.kp T.Zcz .nil Z9 (Z0 (pv 3) (Z0 (Zg (ixL (K:=K) rfl) (Zg (ixT (K:=K) rfl) (pv 2) Z5 (λ_ _=>rfl)) Z5 (λ_ _=>rfl)) (Z0 (Zl XC Z5 Z5) Z4)))) (Zg (ixL (K:=K) rfl) (pv 4) (pv 6) (λ_ _=>rfl)) (Zp _))))) (Z8 (Zj Xo)) Zm))))
   (Z7 (X1 PassesOwn.never rfl (XT rfl T.Zae (Z0 Z5 Z4)) (Zu (i:=5) Z9N.nd rfl (Or.inl rfl)) (Z8 (Zr (Xd (Xb (Za Z94 (hr.mono (by decide)) rfl T.Z8U T.Z8M.kp T.Z8S .nil Z9 (Z0 (pv 3) (Z0 Zw Z4))))) (Z8 (Zj Xo)) Zm)))
   (Z7 (Zr (PW.pt (Z40 (Xb (Za Z94 (hr.mono (by decide)) rfl T.Z8U T.Z8M.kp T.Z8S .nil Z9 (Z0 (pv 3) (Z0 Zw Z4)))) (Z1Y (Zk (Z2B hu) (Jo (pv 3) T.Z8t ⟨T.Zdz,T.Zd5,T.Zbt.kp⟩ Zf6 (hr.mono (by decide)) T.Zde .nil Z9) (Y0 Z4) (Zp _))))) (Z8 (Zj Xo)) Zm)
   (Z7 (X1 PassesOwn.never rfl (Z58 rfl T.Zae (Z0 (Z01 Jb Z5) (Z0 (ZA (XV (K:=K) rfl) rfl T.Z9d PySem.boot_len (Z0 (pv 4) Z4)) Z4))) (Zu (i:=6) Z9N.nd rfl (Or.inl rfl)) (Z7 (Zr (Xd (Xb (Za Z94 (hr.mono (by decide)) rfl T.Z8U T.Z8M.kp T.Z8S .nil Z9 (Z0 (pv 3) (Z0 Zw Z4))))) (Z8 (Zj Xo)) Zm)
   (Z8 (Zr (PW.pt (J9 (Zk Z0G (pv 6) Z5 (Zp _)) (J9 (Zk Y9 (Zl Yo (pv 6) Z5) Z5 (Zp _)) (Jh (Zk (Z2B hu) (Za ZdC (hr.mono (by decide)) rfl T.Zcy T.Zbz.kp T.Zcz .nil Z9 (Z0 (pv 3) (Z0 (Zg (ixL (K:=K) rfl) (Zg (ixT (K:=K) rfl) (pv 2) Z5 (λ_ _=>rfl)) Z5 (λ_ _=>rfl)) (Z0 (Zl XC Z5 Z5) Z4)))) (Zg (ixL (K:=K) rfl) (pv 4) (pv 6) (λ_ _=>rfl)) (Zp _)))))) (Z8 (Zj Xo)) Zm))))
   (Z8 (Zj (Z4q (Z7m (Za Z94 (hr.mono (by decide)) rfl T.Z8U T.Z8M.kp T.Z8S .nil Z9 (Z0 (pv 3) (Z0 Zw Z4)))) (Z5o (Z02 (Z7n hu) (Za ZdC (hr.mono (by decide)) rfl T.Zcy T.Zbz.kp T.Zcz .nil Z9 (Z0 (pv 3) (Z0 (Zg (ixL (K:=K) rfl) (Zg (ixT (K:=K) rfl) (pv 2) Z5 (λ_ _=>rfl)) Z5 (λ_ _=>rfl)) (Z0 (Zl XC Z5 Z5) Z4)))) (Zg (ixL (K:=K) rfl) (pv 4) (Z01 Jb Z5) (λ_ _=>rfl)) (Zp _)))))))))))))))))),?_⟩
  walk_at "r";refine⟨a,ns,rfl,hS,hns,λb l H1 hb hl B1 s1=>?_⟩;walk_at "r";refine⟨b,l,ns,rfl,B1,λtp sL mL x y nm ss mn pn H2 B2 htp hsL hmL gx gy gn nxy k2=>?_⟩;walk_at "r";intro bk dxb hbk hdxb nedx;refine⟨bk,dxb,rfl,Z1,λpa fu pg sn dl H3 H4 s3 PA hsn hdl hpa hfu npf B4 k4=>⟨rfl,?_⟩⟩;have W:=Wp.first (ns:=ns) (pn:=pn) B2 htp hsL hmL hbk hdxb s3 PA hsn hdl hpa hfu npf B4 k4;clear PA hsn hdl B4 k4 s3 hpa hfu npf;have hx8:x.cps.size≤1000:=by have:x.cps.size≤8:=gx.2.2;omega
  have hy8:y.cps.size≤1000:=by have:y.cps.size≤8:=gy.2.2;omega
  have hn8:nm.cps.size≤1000:=by have:nm.cps.size≤8:=gn.2.2;omega
  obtain⟨dx,h1⟩:=W.book.at';obtain⟨sn,dl,PA⟩:=W.page;obtain⟨es,f1,_⟩:=id PA.hd;walk_at "r";refine⟨bk,dx,_,rfl,h1,rfl,?_⟩;walk_at "r";refine⟨tp,_,0,_,rfl,rfl,SqT.of (Ze _ _ W.tpl),rfl,?_⟩;walk_at "r";refine Zn (SqL.of (Ze _ _ W.sls)) (v:=.str x) (Zx (j:=0) rfl) ?_;walk_at "r";refine⟨bk,pa,fu,pg,sn,dl,[],[],_,x,rfl,W.book,by simp,PA.same Ze,hx8,by simp,gx.good,by simp,λH5 pg2 sn2 dl2 s5 o1 o2 PA2 fu2 H6 hf2 B6 k6=>?_⟩;replace W:=W.turn s5 (W.out PA.hs o1) (W.out f1 o2) PA2 hf2 B6 k6;clear h1 PA f1 o1 o2 PA2 hf2 B6 k6 s5;obtain⟨dx,h1⟩:=W.book.at';obtain⟨sn,dl,PA⟩:=W.page;obtain⟨es,f1,_⟩:=id PA.hd;walk_at "r";refine⟨bk,dx,_,rfl,h1,rfl,?_⟩;walk_at "r";refine⟨tp,_,0,_,rfl,rfl,SqT.of (Ze _ _ W.tpl),rfl,?_⟩;walk_at "r";refine Zn (SqL.of (Ze _ _ W.sls)) (v:=.str y) (Zx (j:=1) rfl) ?_;walk_at "r";refine⟨bk,pa,fu2,pg2,sn,dl,_,[],_,y,rfl,W.book,by simp,PA.same Ze,hy8,by simp,gy.good,by simpa using Ne.symm nxy,λH7 pg3 sn3 dl3 s7 o1 o2 PA3 fu3 H8 hf3 B8 k8=>?_⟩;replace W:=W.turn s7 (W.out PA.hs o1) (W.out f1 o2) PA3 hf3 B8 k8;clear h1 PA f1 o1 o2 PA3 hf3 B8 k8 s7;obtain⟨dx,h1⟩:=W.book.at';obtain⟨sn,dl,PA⟩:=W.page;obtain⟨es,f1,_⟩:=id PA.hd;walk_at "r";refine⟨bk,dx,_,rfl,h1,rfl,?_⟩;walk_at "r";refine⟨tp,_,1,_,rfl,rfl,SqT.of (Ze _ _ W.tpl),rfl,?_⟩;walk_at "r";refine Zn (SqL.of (Ze _ _ W.mls)) (v:=.str nm) (Zx (j:=0) rfl) ?_;walk_at "r";refine⟨tp,_,0,_,rfl,rfl,SqT.of (Ze _ _ W.tpl),rfl,?_⟩;walk_at "r";refine Zn (SqL.of (Ze _ _ W.sls)) (v:=.str x) (Zx (j:=0) rfl) ?_;walk_at "r";refine⟨bk,pa,fu3,pg3,sn,dl,_,[],_,nm,x,2,rfl,W.book,by simp,PA.same Ze,hn8,by simp,gn.good,by simp,by simp,⟨by decide,by decide⟩,λH9 pg4 sn4 dl4 s9 o1 o2 PA4 fu4 Ha hf4 Ba ka=>?_⟩;replace W:=W.turn s9 (W.out PA.hs o1) (W.out f1 o2) PA4 hf4 Ba ka;clear h1 PA f1 o1 o2 PA4 hf4 Ba ka s9;obtain⟨dx,h1⟩:=W.book.at';obtain⟨sn,dl,PA⟩:=W.page;obtain⟨es,f1,_⟩:=id PA.hd;walk_at "r";refine⟨tp,_,1,_,rfl,rfl,SqT.of (Ze _ _ W.tpl),rfl,?_⟩;walk_at "r";refine Zn (SqL.of (Ze _ _ W.mls)) (v:=.str nm) (Zx (j:=0) rfl) ?_;walk_at "r";have g0:=GoodG.first nm x y;refine⟨bk,pa,fu4,pg4,sn,dl,_,[],_,nm,_,_,_,rfl,W.book,PA.same Ze,Ze _ _ f1,g0.manIs .nil (by rw[Z28];decide),λp p1 p2 Hb sb hp hp1 hp2 e0 e1 e2=>?_⟩;have rp:=J0 W.mu PA (Ze _ _ f1) (by simp) sb hp hp1 hp2 e0 e1 e2;replace W:=W.same sb;walk_at "r";refine⟨by show 1≤sizeLine;decide,λkp hkp=>?_⟩;have W0:=W.wd (kp:=kp) rfl hkp g0 .nil rp;clear W h1 PA f1 rp e0 e1 e2 hp hp1 hp2
  change Z2z _ _ _ [some (.ref a),some (.ref b),some (.ref tp),some (.ref bk),some (.ref kp),none,none] (upd Hb kp (.lst [.ref p]))
  generalize upd Hb kp (.lst [.ref p])=Hk at W0 ⊢;clear hkp sb;have ny:y≠"":=λz=>by
   have:=gy.2.1;rw[z] at this;exact absurd this (by decide +kernel)
  generalize hall:[]++[pg]++[pg2]++[pg3]++[pg4]=all0 at W0;refine XB (λσ' H'=>∃ (fu:Addr) (all ks:List Addr) (T:Nat) (u:Option V),σ'=[some (.ref a),some (.ref b),some (.ref tp),some (.ref bk),some (.ref kp),u,none]∧Wd A nm x y b l bk pa fu kp tp sL mL ns ss mn pn all ks 0 (T + 3) H'∧ks.length=T + 1∧40≤T∧T≤140) ?rest1 (λnx hn=>?now1)
  case now1=>
   refine Z0T (Z3A ?_);walk_at "r";refine⟨b,l,ns,101,rfl,W0.box,by decide,by decide,λr H5 r0 r1 B5 k5 _=>?_⟩;walk_at "r";refine⟨_,rfl,by omega,by omega,?_⟩;refine Jv (n:=(40 + r).toNat) (λi σ2 H2=>∃ (fu:Addr) (all ks:List Addr) (u:Option V),σ2=[some (.ref a),some (.ref b),some (.ref tp),some (.ref bk),some (.ref kp),u,none]∧Wd A nm x y b l bk pa fu kp tp sL mL ns ss mn pn all ks 0 (i + 3) H2∧ks.length=i + 1) ⟨fu4,_,_,none,rfl,W0.keepB B5 k5,rfl⟩ ?_ ?_
   ·rintro i σ2 H6 hi ⟨fu,all,ks,u,rfl,W,hks⟩;have hi2:i≤140:=by omega
    obtain⟨pg,kk,sn,dl,g,m,es,h1,h2,BS,PA,f1,gg,run,rp⟩:=W.see (by omega);have hall:i + 3 + 1=all.length:=by have:=W.len;omega
    have msn:=(Y1 PA.hs).1;have mdl:=(Y1 f1).1;simp only[List.mem_cons,List.mem_nil_iff,or_false,not_or] at msn mdl;walk_at "r";refine⟨tp,_,1,_,rfl,rfl,SqT.of (Ze _ _ W.tpl),rfl,?_⟩;walk_at "r";refine Zn (SqL.of (Ze _ _ W.mls)) (v:=.str nm) (Zx (j:=0) rfl) ?_;walk_at "r";refine⟨tp,_,0,_,rfl,rfl,SqT.of (Ze _ _ W.tpl),rfl,?_⟩;walk_at "r";refine Zn (SqL.of (Ze _ _ W.sls)) (v:=.str y) (Zx (j:=1) rfl) ?_;walk_at "r";rw[Int.zero_add];refine⟨b,l,bk,pa,fu,pg,sn,dl,ns,_,_,g,nm,x,y,i,rfl,W.box,BS,by rw[List.length_take];omega,PA.same Ze,gg,by omega,nxy,ny,W.n2,W.n3,msn.1,mdl.1,λg' H7 H8 pg' sn' dl' fu' gg' B7 k7 o1 o2 PA' hf' B8 k8=>?_⟩;obtain⟨W1,PA1⟩:=W.turn hall h1 B7 k7 (W.out PA.hs o1) (W.out f1 o2) PA' hf' B8 k8;obtain⟨es1,q1,_⟩:=id PA1.hd;obtain⟨m1,run1⟩:=gg'.run;walk_at "r";refine⟨.inl ⟨rfl,_,SqL.of W1.kept⟩,?_⟩;walk_at "r";refine⟨tp,_,1,_,rfl,rfl,SqT.of (Ze _ _ W1.tpl),rfl,?_⟩;walk_at "r";refine Zn (SqL.of (Ze _ _ W1.mls)) (v:=.str nm) (Zx (j:=0) rfl) ?_;walk_at "r";refine⟨bk,pa,fu',pg',sn',dl',_,_,g',nm,_,m1,_,rfl,B8,PA1.same Ze,Ze _ _ q1,gg'.manIs run1 (by rw[Z28];omega),λp p1 p2 H9 s9 hp hp1 hp2 e0 e1 e2=>?_⟩;have rp1:=J0 W1.mu PA1 (Ze _ _ q1) (by have:=gg'.len;omega) s9 hp hp1 hp2 e0 e1 e2;have W2:=W1.same s9;walk_at "r";refine XH W2.kept (ZB (by rw[List.length_map];omega)) ?_;walk_at "r";refine⟨fu',_,_,_,rfl,W2.push (q:=pg') (by omega) ?_ ⟨sn',dl',g',m1,PA1.same (Yd λd o e n=>⟨s9 _ _ e,n⟩),by rw[hks];exact gg',run1,rp1⟩,by simp[hks]⟩;rw[hks,show i + 1 + 3=all.length by omega,List.getElem?_append_right (Nat.le_refl _),Nat.sub_self];rfl
   ·rintro σ2 H6 ⟨fu,all,ks,u,rfl,W,hks⟩;exact hn _ _ ⟨fu,all,ks,(40 + r).toNat,u,rfl,W,hks,by omega,by omega⟩
  case rest1=>
  rintro σ1 H1' ⟨fu,all,ks,TT,u,rfl,W,hks,hT1,hT2⟩;have hall:all.length=TT + 4:=by have:=W.len;omega
  clear W0 hall;have hall:all.length=TT + 4:=by have:=W.len;omega
  refine XB (λσ' H'=>∃ (u v:Option V),σ'=[some (.ref a),some (.ref b),some (.ref tp),some (.ref bk),some (.ref kp),u,v]∧Wd A nm x y b l bk pa fu kp tp sL mL ns ss mn pn all ks 0 3 H') ?rest2 (λnx hn=>?now2)
  case now2=>
   refine Z0T (Z6F ?_);walk_at "r";refine⟨kp,_,rfl,.inl (SqL.of W.kept),?_⟩;walk_at "r";refine⟨_,_,TT,rfl,by rw[List.length_map,hks];omega,by omega,by rw[List.length_map,hks];omega,?_⟩;refine Z3U (bk:=nx) (ct:=nx) (n:=TT) (λj σ2 H2=>∃ (u v:Option V),σ2=[some (.ref a),some (.ref b),some (.ref tp),some (.ref bk),some (.ref kp),u,v]∧Wd A nm x y b l bk pa fu kp tp sL mL ns ss mn pn all ks 0 (TT + 3 - j) H2) ⟨_,_,rfl,W⟩ ?_ ?_
   ·rintro j σ2 H2 hj ⟨u,v,rfl,W⟩;obtain⟨ii,ea⟩:∃ ii,ii + j + 1=TT:=⟨TT - 1 - j,by omega⟩;have eat:((ks.map V.ref).length:Int) - 2 - (j:Int)=(ii:Int):=by rw[List.length_map,hks];omega
    rw[eat,show TT + 3 - (j + 1)=ii + 3 by omega];rw[show TT + 3 - j=ii + 3 + 1 by omega] at W;obtain⟨pg,h1,BS⟩:=W.book;walk_at "r";refine⟨bk,pa,fu,pg,_,_,"undo",rfl,BS,by rw[List.length_take];omega,by rw[List.length_reverse,List.length_drop];omega,W.n1,.inl ⟨rfl,λz=>?_,λps0 p ep H3 B3 k3=>?_⟩⟩
    ·have:=congrArg List.length z;rw[List.length_take] at this;simp only[List.length_nil] at this;omega
    ·replace W:=W.back h1 ep B3 k3;clear h1 BS ep B3 k3;walk_at "r";refine Zo (by decide) ?_;walk_at "r"
     by_cases h7:(ii:Int) % 7=0
     ·refine ZJ (decide_eq_true h7) ?_;walk_at "r";obtain⟨pg',kk,sn,dl,g,m,es,q1,q2,BS',PA,f1,gg,run,rp⟩:=W.see (i:=ii) (by omega);have shp:=Js gg run gn gy;refine⟨tp,_,1,_,rfl,rfl,SqT.of (Ze _ _ W.tpl),rfl,?_⟩;walk_at "r";refine Zn (SqL.of (Ze _ _ W.mls)) (v:=.str nm) (Zx (j:=0) rfl) ?_;walk_at "r";refine⟨bk,pa,fu,pg',sn,dl,_,_,g,nm,_,m,_,rfl,BS',PA.same Ze,Ze _ _ f1,gg.manIs run (by rw[Z28];omega),λp p1 p2 H9 s9 hp hp1 hp2 e0 e1 e2=>?_⟩;have rp1:=J0 W.mu PA (Ze _ _ f1) (by have:=gg.len;omega) s9 hp hp1 hp2 e0 e1 e2;have W2:=W.same s9;walk_at "r";refine Zn (SqL.of W2.kept) (v:=.ref kk) (Zx (j:=ii) (by rw[List.getElem?_map,q2];rfl)) ?_;refine⟨_,_,rp1.same Ze,(rp.same Ze).same s9,shp,shp,?_⟩;rw[Z0u shp];walk_at "r";refine Zo (by decide) ?_;walk_at "r";exact⟨_,_,rfl,W2⟩
     ·refine Zo (λz=>h7 (of_decide_eq_true z)) ?_;walk_at "r";refine Zo (by decide) ?_;walk_at "r";exact⟨_,_,rfl,W⟩
   ·rintro σ2 H2 ⟨u,v,rfl,W⟩;rw[show TT + 3 - TT=3 by omega] at W;exact hn _ _ ⟨u,v,rfl,W⟩
  case rest2=>
  rintro σ2 H2' ⟨u,v,rfl,W⟩;refine XB (λσ' H'=>∃ (u v:Option V),σ'=[some (.ref a),some (.ref b),some (.ref tp),some (.ref bk),some (.ref kp),u,v]∧Wd A nm x y b l bk pa fu kp tp sL mL ns ss mn pn all ks 0 0 H') ?rest3 (λnx hn=>?now3)
  case now3=>
   refine Z0T (Z3A ?_);walk_at "r";refine⟨3,rfl,by omega,by omega,?_⟩;refine Jv (n:=3) (λj σ2 H2=>∃ (u v:Option V),σ2=[some (.ref a),some (.ref b),some (.ref tp),some (.ref bk),some (.ref kp),u,v]∧Wd A nm x y b l bk pa fu kp tp sL mL ns ss mn pn all ks 0 (3 - j) H2) ⟨_,_,rfl,W⟩ ?_ ?_
   ·rintro j σ2 H2 hj ⟨u,v,rfl,W⟩;obtain⟨ii,ea⟩:∃ ii,ii + j + 1=3:=⟨2 - j,by omega⟩;rw[show 3 - (j + 1)=ii by omega];rw[show 3 - j=ii + 1 by omega] at W;obtain⟨pg,h1,BS⟩:=W.book;walk_at "r";refine⟨bk,pa,fu,pg,_,_,"undo",rfl,BS,by rw[List.length_take];omega,by rw[List.length_reverse,List.length_drop];omega,W.n1,.inl ⟨rfl,λz=>?_,λps0 p ep H3 B3 k3=>?_⟩⟩
    ·have:=congrArg List.length z;rw[List.length_take] at this;simp only[List.length_nil] at this;omega
    ·replace W:=W.back h1 ep B3 k3;walk_at "r";refine Zo (by decide) ?_;walk_at "r";exact⟨_,_,rfl,W⟩
   ·rintro σ2 H2 ⟨u,v,rfl,W⟩;exact hn _ _ ⟨u,v,rfl,W⟩
  case rest3=>
  rintro σ3 H3' ⟨u,v,rfl,W⟩;refine XB (λσ' H'=>∃ (u v:Option V),σ'=[some (.ref a),some (.ref b),some (.ref tp),some (.ref bk),some (.ref kp),u,v]∧Wd A nm x y b l bk pa fu kp tp sL mL ns ss mn pn all ks 0 0 H') ?rest4 (λnx hn=>?now4)
  case now4=>
   obtain⟨pg,h1,BS⟩:=W.book;walk_at "r";refine⟨bk,pa,fu,pg,_,_,"undo",rfl,BS,by simp,by rw[List.length_reverse,List.length_drop];omega,W.n1,.inl ⟨rfl,λ_ H4 s4=>?_,λps0 p ep H3 B3 k3=>?_⟩⟩
   ·replace W:=W.same s4;obtain⟨p0,sn,dl,z1,z2⟩:=W.zero;obtain⟨pg2,y1,BS2⟩:=W.book;rw[z1] at y1;cases y1;obtain⟨dx,h2⟩:=BS2.at';walk_at "r";refine Zo (by decide) ?_;walk_at "r";refine⟨bk,dx,_,rfl,h2,rfl,?_⟩;walk_at "r";refine⟨bk,pa,fu,p0,sn,dl,_,_,_,rfl,BS2,z2.same Ze,by simp,λq hq=>?_⟩;rw[Z1t (by simp)];have sq:=Same.new hq (HO.lst []);replace W:=W.same sq;walk_at "r";refine⟨by show 0≤sizeLine;decide,λq2 hq2=>?_⟩;have sq2:=Same.new hq2 (HO.lst []);replace W:=W.same sq2;refine⟨.list [],.list [],.lst (sq2 _ _ Z1) (by show 0 < sizeLine;decide) .nil,.lst Z1 (by show 0 < sizeLine;decide) .nil,by decide +kernel,by decide +kernel,?_⟩;rw[show PyData.eqv (.list []) (.list [])=true from rfl];walk_at "r";refine Zo (by decide) ?_;walk_at "r";exact hn _ _ ⟨_,_,rfl,W⟩
   ·have:=congrArg List.length ep;simp at this
  case rest4=>
  rintro σ4 H4' ⟨u,v,rfl,W⟩;refine XB (λσ' H'=>∃ (u v:Option V),σ'=[some (.ref a),some (.ref b),some (.ref tp),some (.ref bk),some (.ref kp),u,v]∧Wd A nm x y b l bk pa fu kp tp sL mL ns ss mn pn all ks 0 (TT + 3) H') ?rest5 (λnx hn=>?now5)
  case now5=>
   refine Z0T (Z6Z ?_);walk_at "r";refine⟨kp,_,rfl,.inl (SqL.of W.kept),?_⟩;walk_at "r";refine⟨_,_,rfl,⟨by omega,by omega,by rw[List.length_map,hks];omega,by rw[List.length_map,hks];omega⟩,?_⟩;rw[show (((ks.map V.ref).length:Int) - (-2)).toNat=TT + 3 by rw[List.length_map,hks];omega];refine Jv (n:=TT + 3) (λj σ2 H2=>∃ (u v:Option V),σ2=[some (.ref a),some (.ref b),some (.ref tp),some (.ref bk),some (.ref kp),u,v]∧Wd A nm x y b l bk pa fu kp tp sL mL ns ss mn pn all ks 0 j H2) ⟨_,_,rfl,W⟩ ?_ ?_
   ·rintro j σ2 H2 hj ⟨u,v,rfl,W⟩;obtain⟨pg,h1,BS⟩:=W.book;walk_at "r";refine⟨bk,pa,fu,pg,_,_,"redo",rfl,BS,by rw[List.length_take];omega,by rw[List.length_reverse,List.length_drop];omega,W.n1,.inr ⟨rfl,λz=>?_,λfs0 p ep H3 B3 k3=>?_⟩⟩
    ·have:=congrArg List.length z;rw[List.length_reverse,List.length_drop] at this;simp only[List.length_nil] at this;omega
    ·replace W:=W.onward h1 (by omega) ep B3 k3;clear h1 BS ep B3 k3;walk_at "r";refine Zo (by decide) ?_;walk_at "r"
     by_cases hp:(0:Int) < -2 + (j:Int)
     ·obtain⟨ii,ej⟩:∃ ii,j=ii + 2:=⟨j - 2,by omega⟩;subst ej;rw[show ii + 2 + 1=ii + 3 from rfl] at W ⊢;have eat:-2 + ((ii + 2:Nat):Int)=(ii:Int):=by omega
      rw[eat] at hp ⊢;refine ZJ (decide_eq_true hp) ?_;walk_at "r"
      by_cases h7:(ii:Int) % 7=0
      ·refine ZJ (decide_eq_true h7) ?_;walk_at "r";obtain⟨pg',kk,sn,dl,g,m,es,q1,q2,BS',PA,f1,gg,run,rp⟩:=W.see (i:=ii) (by omega);have shp:=Js gg run gn gy;refine⟨tp,_,1,_,rfl,rfl,SqT.of (Ze _ _ W.tpl),rfl,?_⟩;walk_at "r";refine Zn (SqL.of (Ze _ _ W.mls)) (v:=.str nm) (Zx (j:=0) rfl) ?_;walk_at "r";refine⟨bk,pa,fu,pg',sn,dl,_,_,g,nm,_,m,_,rfl,BS',PA.same Ze,Ze _ _ f1,gg.manIs run (by rw[Z28];omega),λp p1 p2 H9 s9 hp hp1 hp2 e0 e1 e2=>?_⟩;have rp1:=J0 W.mu PA (Ze _ _ f1) (by have:=gg.len;omega) s9 hp hp1 hp2 e0 e1 e2;have W2:=W.same s9;walk_at "r";refine Zn (SqL.of W2.kept) (v:=.ref kk) (Zx (j:=ii) (by rw[List.getElem?_map,q2];rfl)) ?_;refine⟨_,_,rp1.same Ze,(rp.same Ze).same s9,shp,shp,?_⟩;rw[Z0u shp];walk_at "r";refine Zo (by decide) ?_;walk_at "r";exact⟨_,_,rfl,W2⟩
      ·refine Zo (λz=>h7 (of_decide_eq_true z)) ?_;walk_at "r";refine Zo (by decide) ?_;walk_at "r";exact⟨_,_,rfl,W⟩
     ·refine Zo (λz=>hp (of_decide_eq_true z)) ?_;walk_at "r";refine Zo (by decide) ?_;walk_at "r";exact⟨_,_,rfl,W⟩
   ·rintro σ2 H2 ⟨u,v,rfl,W⟩;exact hn _ _ ⟨u,v,rfl,W⟩
  case rest5=>
  rintro σ5 H5' ⟨u,v,rfl,W⟩;obtain⟨pg,h1,BS⟩:=W.book;walk_at "r";refine⟨bk,pa,fu,pg,_,_,"redo",rfl,BS,by rw[List.length_take];omega,by rw[List.length_reverse,List.length_drop];omega,W.n1,.inr ⟨rfl,λ_ H6 s6=>?_,λfs0 p ep H3 B3 k3=>?_⟩⟩
  ·replace W:=W.same s6;walk_at "r";refine ZJ rfl ?_;walk_at "r";obtain⟨pg',kk,sn,dl,g,m,es,q1,q2,BS',PA,f1,gg,run,rp⟩:=W.see (i:=TT) (by omega);have shp:=Js gg run gn gy;refine⟨tp,_,1,_,rfl,rfl,SqT.of (Ze _ _ W.tpl),rfl,?_⟩;walk_at "r";refine Zn (SqL.of (Ze _ _ W.mls)) (v:=.str nm) (Zx (j:=0) rfl) ?_;walk_at "r";refine⟨bk,pa,fu,pg',sn,dl,_,_,g,nm,_,m,_,rfl,BS',PA.same Ze,Ze _ _ f1,gg.manIs run (by rw[Z28];omega),λp p1 p2 H9 s9 hp hp1 hp2 e0 e1 e2=>?_⟩;have rp1:=J0 W.mu PA (Ze _ _ f1) (by have:=gg.len;omega) s9 hp hp1 hp2 e0 e1 e2;have W2:=W.same s9;walk_at "r";obtain⟨ks0,kl,eks⟩:=JO (xs:=ks) (by omega);have ekk:kl=kk:=by
    rw[eks,show TT=ks0.length by rw[eks] at hks;simp at hks;omega,List.getElem?_append_right (Nat.le_refl _),Nat.sub_self] at q2
    simpa using q2
   have hk2:=W2.kept;rw[eks,List.map_append] at hk2;refine Zn (SqL.of hk2) (v:=.ref kl) (Z0r _ _) ?_;rw[ekk];refine⟨_,_,rp1.same Ze,(rp.same Ze).same s9,shp,shp,?_⟩;rw[Z0u shp];exact k _
  ·have:=congrArg List.length ep;rw[List.length_reverse,List.length_drop,List.length_append] at this;simp only[List.length_cons,List.length_nil] at this;omega
end
theorem all_mk {l:W.OpenLaw}{w:World}{K:W.Frag}{h:Heap}{mg:Str→Option Value}{fa f1 f2 f3 f4 f5 f6 f7 f8 f9 f10 f11 f12 f13 f14 f15 f16 f17 f18 f19 f20 f21 f22 f23 f24 f25 f26 f27 f28 f29 f30 f31 f32 f33 f34 f35 f36 f37 f38 f39 f40 f41 f42 f43 f44 f45 f46 f47 f48 f49 f50 f51 f52 f53 f54 f55 f56 f57 f58 f59 f60 f61 f62 f63 f64:Addr}(X:K.In h)(G:h.Ns mainGlobals mg)(hfa:mg "law" = some (.ref fa))
 {D1 N1 D2 N2 D3 N3 D4 N4 D5 N5 D6 N6 D7 N7 D8 N8 D9 N9 D10 N10 D11 N11 D12 N12 D13 N13 D14 N14 D15 N15 D16 N16 D17 N17 D18 N18 D19 N19 D20 N20 D21 N21 D22 N22 D23 N23 D24 N24 D25 N25 D26 N26 D27 N27 D28 N28 D29 N29 D30 N30 D31 N31 D32 N32 D33 N33 D34 N34 D35 N35 D36 N36 D37 N37 D38 N38 D39 N39 D40 N40 D41 N41 D42 N42 D43 N43 D44 N44 D45 N45 D46 N46 D47 N47 D48 N48 D49 N49 D50 N50 D51 N51 D52 N52 D53 N53 D54 N54 D55 N55 D56 N56 D57 N57 D58 N58 D59 N59 D60 N60 D61 N61 D62 N62 D63 N63 D64 N64:Option Addr}{S1 S2 S3 S4 S5 S6 S7 S8 S9 S10 S11 S12 S13 S14 S15 S16 S17 S18 S19 S20 S21 S22 S23 S24 S25 S26 S27 S28 S29 S30 S31 S32 S33 S34 S35 S36 S37 S38 S39 S40 S41 S42 S43 S44 S45 S46 S47 S48 S49 S50 S51 S52 S53 S54 S55 S56 S57 S58 S59 S60 S61 S62 S63 S64:Array (Option Value)}{O1 V1 E1 P1 Q1 T1 O2 V2 E2 P2 Q2 T2 O3 V3 E3 P3 Q3 T3 O4 V4 E4 P4 Q4 T4 O5 V5 E5 P5 Q5 T5 O6 V6 E6 P6 Q6 T6 O7 V7 E7 P7 Q7 T7 O8 V8 E8 P8 Q8 T8 O9 V9 E9 P9 Q9 T9 O10 V10 E10 P10 Q10 T10 O11 V11 E11 P11 Q11 T11 O12 V12 E12 P12 Q12 T12 O13 V13 E13 P13 Q13 T13 O14 V14 E14 P14 Q14 T14 O15 V15 E15 P15 Q15 T15 O16 V16 E16 P16 Q16 T16 O17 V17 E17 P17 Q17 T17 O18 V18 E18 P18 Q18 T18 O19 V19 E19 P19 Q19 T19 O20 V20 E20 P20 Q20 T20 O21 V21 E21 P21 Q21 T21 O22 V22 E22 P22 Q22 T22 O23 V23 E23 P23 Q23 T23 O24 V24 E24 P24 Q24 T24 O25 V25 E25 P25 Q25 T25 O26 V26 E26 P26 Q26 T26 O27 V27 E27 P27 Q27 T27 O28 V28 E28 P28 Q28 T28 O29 V29 E29 P29 Q29 T29 O30 V30 E30 P30 Q30 T30 O31 V31 E31 P31 Q31 T31 O32 V32 E32 P32 Q32 T32 O33 V33 E33 P33 Q33 T33 O34 V34 E34 P34 Q34 T34 O35 V35 E35 P35 Q35 T35 O36 V36 E36 P36 Q36 T36 O37 V37 E37 P37 Q37 T37 O38 V38 E38 P38 Q38 T38 O39 V39 E39 P39 Q39 T39 O40 V40 E40 P40 Q40 T40 O41 V41 E41 P41 Q41 T41 O42 V42 E42 P42 Q42 T42 O43 V43 E43 P43 Q43 T43 O44 V44 E44 P44 Q44 T44 O45 V45 E45 P45 Q45 T45 O46 V46 E46 P46 Q46 T46 O47 V47 E47 P47 Q47 T47 O48 V48 E48 P48 Q48 T48 O49 V49 E49 P49 Q49 T49 O50 V50 E50 P50 Q50 T50 O51 V51 E51 P51 Q51 T51 O52 V52 E52 P52 Q52 T52 O53 V53 E53 P53 Q53 T53 O54 V54 E54 P54 Q54 T54 O55 V55 E55 P55 Q55 T55 O56 V56 E56 P56 Q56 T56 O57 V57 E57 P57 Q57 T57 O58 V58 E58 P58 Q58 T58 O59 V59 E59 P59 Q59 T59 O60 V60 E60 P60 Q60 T60 O61 V61 E61 P61 Q61 T61 O62 V62 E62 P62 Q62 T62 O63 V63 E63 P63 Q63 T63 O64 V64 E64 P64 Q64 T64:Value}
 {Z8y:Addr}{dt0_DOINGS dt1_DOINGS dt2_DOINGS dt3_DOINGS dt4_DOINGS dt5_DOINGS dt6_DOINGS:Tok}{ep_DOINGS:Nat}
 {tk_NO_NUMBER:Tok}
 {tk_LAST_DAY:Tok}
 {tk_MOST_DEEDS:Tok}
 {tk_MOST_MEN:Tok}
 {tk_MOST_SIDES:Tok}
 {tk_MOST_LETTERS:Tok}
 {tk_LETTERS:Tok}
 {tk_MOST_RANKS:Tok}
 {Z8s:Addr}
 {Z8z:Addr}
 {Z8v:Addr}
 {Z8G:Addr}
 {Z8Q:Addr}
 {Z8X:Addr}
 (mc_CartelError:W.nsIn K mainGlobals "CartelError" = some (some (.ref Z8X)))
 (mc_NoStep:W.nsIn K mainGlobals "NoStep" = some (some (.ref Z8Q)))
 (mc_Man:W.nsIn K mainGlobals "Man" = some (some (.ref Z8G)))
 (mc_Muster:W.nsIn K mainGlobals "Muster" = some (some (.ref Z8v)))
 (mc_Page:W.nsIn K mainGlobals "Page" = some (some (.ref Z8z)))
 (mc_Book:W.nsIn K mainGlobals "Book" = some (some (.ref Z8s)))
 (a1:W.nsIn K mainGlobals "holder_of" = some (some (.ref f1))) (l1:K.lookup f1=some ⟨O1,D1,.func (W.fnOf "holder_of" "holder_of" (Zc ZE) (Zb ZE) (Z3 ZE) .none V1 E1 P1 N1 Q1 T1),S1⟩) (c1:W.codeIn K Q1 "holder_of" = true) (k1:W.keepIn K (.ref f1)=true)
 (a2:W.nsIn K mainGlobals "words_of" = some (some (.ref f2))) (l2:K.lookup f2=some ⟨O2,D2,.func (W.fnOf "words_of" "words_of" (Zc Yn) (Zb Yn) (Z3 Yn) .none V2 E2 P2 N2 Q2 T2),S2⟩) (c2:W.codeIn K Q2 "words_of" = true) (k2:W.keepIn K (.ref f2)=true)
 (a3:W.nsIn K mainGlobals "way_of" = some (some (.ref f3))) (l3:K.lookup f3=some ⟨O3,D3,.func (W.fnOf "way_of" "way_of" (Zc Xk) (Zb Xk) (Z3 Xk) .none V3 E3 P3 N3 Q3 T3),S3⟩) (c3:W.codeIn K Q3 "way_of" = true) (k3:W.keepIn K (.ref f3)=true)
 (a4:W.nsIn K mainGlobals "need_alive" = some (some (.ref f4))) (l4:K.lookup f4=some ⟨O4,D4,.func (W.fnOf "need_alive" "need_alive" (Zc Ye) (Zb Ye) (Z3 Ye) .none V4 E4 P4 N4 Q4 T4),S4⟩) (c4:W.codeIn K Q4 "need_alive" = true) (k4:W.keepIn K (.ref f4)=true)
 (a5:W.nsIn K mainGlobals "need_held" = some (some (.ref f5))) (l5:K.lookup f5=some ⟨O5,D5,.func (W.fnOf "need_held" "need_held" (Zc YB) (Zb YB) (Z3 YB) .none V5 E5 P5 N5 Q5 T5),S5⟩) (c5:W.codeIn K Q5 "need_held" = true) (k5:W.keepIn K (.ref f5)=true)
 (a6:W.nsIn K mainGlobals "take_man" = some (some (.ref f6))) (l6:K.lookup f6=some ⟨O6,D6,.func (W.fnOf "take_man" "take_man" (Zc YS) (Zb YS) (Z3 YS) .none V6 E6 P6 N6 Q6 T6),S6⟩) (c6:W.codeIn K Q6 "take_man" = true) (k6:W.keepIn K (.ref f6)=true)
 (a7:W.nsIn K mainGlobals "send_on_word" = some (some (.ref f7))) (l7:K.lookup f7=some ⟨O7,D7,.func (W.fnOf "send_on_word" "send_on_word" (Zc ZY) (Zb ZY) (Z3 ZY) .none V7 E7 P7 N7 Q7 T7),S7⟩) (c7:W.codeIn K Q7 "send_on_word" = true) (k7:W.keepIn K (.ref f7)=true)
 (a8:W.nsIn K mainGlobals "send_home" = some (some (.ref f8))) (l8:K.lookup f8=some ⟨O8,D8,.func (W.fnOf "send_home" "send_home" (Zc YD) (Zb YD) (Z3 YD) .none V8 E8 P8 N8 Q8 T8),S8⟩) (c8:W.codeIn K Q8 "send_home" = true) (k8:W.keepIn K (.ref f8)=true)
 (a9:W.nsIn K mainGlobals "give_rank" = some (some (.ref f9))) (l9:K.lookup f9=some ⟨O9,D9,.func (W.fnOf "give_rank" "give_rank" (Zc YZ) (Zb YZ) (Z3 YZ) .none V9 E9 P9 N9 Q9 T9),S9⟩) (c9:W.codeIn K Q9 "give_rank" = true) (k9:W.keepIn K (.ref f9)=true)
 (a10:W.nsIn K mainGlobals "let_die" = some (some (.ref f10))) (l10:K.lookup f10=some ⟨O10,D10,.func (W.fnOf "let_die" "let_die" (Zc Xr) (Zb Xr) (Z3 Xr) .none V10 E10 P10 N10 Q10 T10),S10⟩) (c10:W.codeIn K Q10 "let_die" = true) (k10:W.keepIn K (.ref f10)=true)
 (a11:W.nsIn K mainGlobals "exchange" = some (some (.ref f11))) (l11:K.lookup f11=some ⟨O11,D11,.func (W.fnOf "exchange" "exchange" (Zc Xa) (Zb Xa) (Z3 Xa) .none V11 E11 P11 N11 Q11 T11),S11⟩) (c11:W.codeIn K Q11 "exchange" = true) (k11:W.keepIn K (.ref f11)=true)
 (a12:W.nsIn K mainGlobals "do_deed" = some (some (.ref f12))) (l12:K.lookup f12=some ⟨O12,D12,.func (W.fnOf "do_deed" "do_deed" (Zc X9) (Zb X9) (Z3 X9) .none V12 E12 P12 N12 Q12 T12),S12⟩) (c12:W.codeIn K Q12 "do_deed" = true) (k12:W.keepIn K (.ref f12)=true)
 (a13:W.nsIn K mainGlobals "all_among" = some (some (.ref f13))) (l13:K.lookup f13=some ⟨O13,D13,.func (W.fnOf "all_among" "all_among" (Zc Yc) (Zb Yc) (Z3 Yc) .none V13 E13 P13 N13 Q13 T13),S13⟩) (c13:W.codeIn K Q13 "all_among" = true) (k13:W.keepIn K (.ref f13)=true)
 (a14:W.nsIn K mainGlobals "good_name" = some (some (.ref f14))) (l14:K.lookup f14=some ⟨O14,D14,.func (W.fnOf "good_name" "good_name" (Zc Yx) (Zb Yx) (Z3 Yx) .none V14 E14 P14 N14 Q14 T14),S14⟩) (c14:W.codeIn K Q14 "good_name" = true) (k14:W.keepIn K (.ref f14)=true)
 (a15:W.nsIn K mainGlobals "empty_page" = some (some (.ref f15))) (l15:K.lookup f15=some ⟨O15,D15,.func (W.fnOf "empty_page" "empty_page" (Zc Yj) (Zb Yj) (Z3 Yj) .none V15 E15 P15 N15 Q15 T15),S15⟩) (c15:W.codeIn K Q15 "empty_page" = true) (k15:W.keepIn K (.ref f15)=true)
 (a16:W.nsIn K mainGlobals "need_side" = some (some (.ref f16))) (l16:K.lookup f16=some ⟨O16,D16,.func (W.fnOf "need_side" "need_side" (Zc YC) (Zb YC) (Z3 YC) .none V16 E16 P16 N16 Q16 T16),S16⟩) (c16:W.codeIn K Q16 "need_side" = true) (k16:W.keepIn K (.ref f16)=true)
 (a17:W.nsIn K mainGlobals "need_man" = some (some (.ref f17))) (l17:K.lookup f17=some ⟨O17,D17,.func (W.fnOf "need_man" "need_man" (Zc YR) (Zb YR) (Z3 YR) .none V17 E17 P17 N17 Q17 T17),S17⟩) (c17:W.codeIn K Q17 "need_man" = true) (k17:W.keepIn K (.ref f17)=true)
 (a18:W.nsIn K mainGlobals "need_rank" = some (some (.ref f18))) (l18:K.lookup f18=some ⟨O18,D18,.func (W.fnOf "need_rank" "need_rank" (Zc Yr) (Zb Yr) (Z3 Yr) .none V18 E18 P18 N18 Q18 T18),S18⟩) (c18:W.codeIn K Q18 "need_rank" = true) (k18:W.keepIn K (.ref f18)=true)
 (a19:W.nsIn K mainGlobals "need_day" = some (some (.ref f19))) (l19:K.lookup f19=some ⟨O19,D19,.func (W.fnOf "need_day" "need_day" (Zc YT) (Zb YT) (Z3 YT) .none V19 E19 P19 N19 Q19 T19),S19⟩) (c19:W.codeIn K Q19 "need_day" = true) (k19:W.keepIn K (.ref f19)=true)
 (a20:W.nsIn K mainGlobals "need_new_name" = some (some (.ref f20))) (l20:K.lookup f20=some ⟨O20,D20,.func (W.fnOf "need_new_name" "need_new_name" (Zc ZS) (Zb ZS) (Z3 ZS) .none V20 E20 P20 N20 Q20 T20),S20⟩) (c20:W.codeIn K Q20 "need_new_name" = true) (k20:W.keepIn K (.ref f20)=true)
 (a21:W.nsIn K mainGlobals "need_room" = some (some (.ref f21))) (l21:K.lookup f21=some ⟨O21,D21,.func (W.fnOf "need_room" "need_room" (Zc Yq) (Zb Yq) (Z3 Yq) .none V21 E21 P21 N21 Q21 T21),S21⟩) (c21:W.codeIn K Q21 "need_room" = true) (k21:W.keepIn K (.ref f21)=true)
 (a22:W.nsIn K mainGlobals "need_deed" = some (some (.ref f22))) (l22:K.lookup f22=some ⟨O22,D22,.func (W.fnOf "need_deed" "need_deed" (Zc Yb) (Zb Yb) (Z3 Yb) .none V22 E22 P22 N22 Q22 T22),S22⟩) (c22:W.codeIn K Q22 "need_deed" = true) (k22:W.keepIn K (.ref f22)=true)
 (a23:W.nsIn K mainGlobals "need_names" = some (some (.ref f23))) (l23:K.lookup f23=some ⟨O23,D23,.func (W.fnOf "need_names" "need_names" (Zc Yk) (Zb Yk) (Z3 Yk) .none V23 E23 P23 N23 Q23 T23),S23⟩) (c23:W.codeIn K Q23 "need_names" = true) (k23:W.keepIn K (.ref f23)=true)
 (a24:W.nsIn K mainGlobals "do_or_break" = some (some (.ref f24))) (l24:K.lookup f24=some ⟨O24,D24,.func (W.fnOf "do_or_break" "do_or_break" (Zc Y2) (Zb Y2) (Z3 Y2) .none V24 E24 P24 N24 Q24 T24),S24⟩) (c24:W.codeIn K Q24 "do_or_break" = true) (k24:W.keepIn K (.ref f24)=true)
 (a25:W.nsIn K mainGlobals "need_all_let" = some (some (.ref f25))) (l25:K.lookup f25=some ⟨O25,D25,.func (W.fnOf "need_all_let" "need_all_let" (Zc ZX) (Zb ZX) (Z3 ZX) .none V25 E25 P25 N25 Q25 T25),S25⟩) (c25:W.codeIn K Q25 "need_all_let" = true) (k25:W.keepIn K (.ref f25)=true)
 (a26:W.nsIn K mainGlobals "muster_on" = some (some (.ref f26))) (l26:K.lookup f26=some ⟨O26,D26,.func (W.fnOf "muster_on" "muster_on" (Zc Yw) (Zb Yw) (Z3 Yw) .none V26 E26 P26 N26 Q26 T26),S26⟩) (c26:W.codeIn K Q26 "muster_on" = true) (k26:W.keepIn K (.ref f26)=true)
 (a27:W.nsIn K mainGlobals "place_of_deed" = some (some (.ref f27))) (l27:K.lookup f27=some ⟨O27,D27,.func (W.fnOf "place_of_deed" "place_of_deed" (Zc ZR) (Zb ZR) (Z3 ZR) .none V27 E27 P27 N27 Q27 T27),S27⟩) (c27:W.codeIn K Q27 "place_of_deed" = true) (k27:W.keepIn K (.ref f27)=true)
 (a28:W.nsIn K mainGlobals "with_deeds" = some (some (.ref f28))) (l28:K.lookup f28=some ⟨O28,D28,.func (W.fnOf "with_deeds" "with_deeds" (Zc Yf) (Zb Yf) (Z3 Yf) .none V28 E28 P28 N28 Q28 T28),S28⟩) (c28:W.codeIn K Q28 "with_deeds" = true) (k28:W.keepIn K (.ref f28)=true)
 (a29:W.nsIn K mainGlobals "with_side" = some (some (.ref f29))) (l29:K.lookup f29=some ⟨O29,D29,.func (W.fnOf "with_side" "with_side" (Zc Yv) (Zb Yv) (Z3 Yv) .none V29 E29 P29 N29 Q29 T29),S29⟩) (c29:W.codeIn K Q29 "with_side" = true) (k29:W.keepIn K (.ref f29)=true)
 (a30:W.nsIn K mainGlobals "with_man" = some (some (.ref f30))) (l30:K.lookup f30=some ⟨O30,D30,.func (W.fnOf "with_man" "with_man" (Zc YX) (Zb YX) (Z3 YX) .none V30 E30 P30 N30 Q30 T30),S30⟩) (c30:W.codeIn K Q30 "with_man" = true) (k30:W.keepIn K (.ref f30)=true)
 (a31:W.nsIn K mainGlobals "with_deed" = some (some (.ref f31))) (l31:K.lookup f31=some ⟨O31,D31,.func (W.fnOf "with_deed" "with_deed" (Zc Yp) (Zb Yp) (Z3 Yp) .none V31 E31 P31 N31 Q31 T31),S31⟩) (c31:W.codeIn K Q31 "with_deed" = true) (k31:W.keepIn K (.ref f31)=true)
 (a32:W.nsIn K mainGlobals "without_deed" = some (some (.ref f32))) (l32:K.lookup f32=some ⟨O32,D32,.func (W.fnOf "without_deed" "without_deed" (Zc ZM) (Zb ZM) (Z3 ZM) .none V32 E32 P32 N32 Q32 T32),S32⟩) (c32:W.codeIn K Q32 "without_deed" = true) (k32:W.keepIn K (.ref f32)=true)
 (a33:W.nsIn K mainGlobals "with_new_day" = some (some (.ref f33))) (l33:K.lookup f33=some ⟨O33,D33,.func (W.fnOf "with_new_day" "with_new_day" (Zc ZN) (Zb ZN) (Z3 ZN) .none V33 E33 P33 N33 Q33 T33),S33⟩) (c33:W.codeIn K Q33 "with_new_day" = true) (k33:W.keepIn K (.ref f33)=true)
 (a34:W.nsIn K mainGlobals "_law_box" = some (some (.ref f34))) (l34:K.lookup f34=some ⟨O34,D34,.func (W.fnOf "_law_box" "_law_box" (Zc XZ) (Zb XZ) (Z3 XZ) .none V34 E34 P34 N34 Q34 T34),S34⟩) (c34:W.codeIn K Q34 "_law_box" = true) (k34:W.keepIn K (.ref f34)=true)
 (a35:W.nsIn K mainGlobals "_law_mixed" = some (some (.ref f35))) (l35:K.lookup f35=some ⟨O35,D35,.func (W.fnOf "_law_mixed" "_law_mixed" (Zc Xl) (Zb Xl) (Z3 Xl) .none V35 E35 P35 N35 Q35 T35),S35⟩) (c35:W.codeIn K Q35 "_law_mixed" = true) (k35:W.keepIn K (.ref f35)=true)
 (a36:W.nsIn K mainGlobals "_law_take" = some (some (.ref f36))) (l36:K.lookup f36=some ⟨O36,D36,.func (W.fnOf "_law_take" "_law_take" (Zc Xy) (Zb Xy) (Z3 Xy) .none V36 E36 P36 N36 Q36 T36),S36⟩) (c36:W.codeIn K Q36 "_law_take" = true) (k36:W.keepIn K (.ref f36)=true)
 (a37:W.nsIn K mainGlobals "_law_named" = some (some (.ref f37))) (l37:K.lookup f37=some ⟨O37,D37,.func (W.fnOf "_law_named" "_law_named" (Zc X6) (Zb X6) (Z3 X6) .none V37 E37 P37 N37 Q37 T37),S37⟩) (c37:W.codeIn K Q37 "_law_named" = true) (k37:W.keepIn K (.ref f37)=true)
 (a38:W.nsIn K mainGlobals "_law_names" = some (some (.ref f38))) (l38:K.lookup f38=some ⟨O38,D38,.func (W.fnOf "_law_names" "_law_names" (Zc Xj) (Zb Xj) (Z3 Xj) .none V38 E38 P38 N38 Q38 T38),S38⟩) (c38:W.codeIn K Q38 "_law_names" = true) (k38:W.keepIn K (.ref f38)=true)
 (a39:W.nsIn K mainGlobals "_law_pool" = some (some (.ref f39))) (l39:K.lookup f39=some ⟨O39,D39,.func (W.fnOf "_law_pool" "_law_pool" (Zc Xz) (Zb Xz) (Z3 Xz) .none V39 E39 P39 N39 Q39 T39),S39⟩) (c39:W.codeIn K Q39 "_law_pool" = true) (k39:W.keepIn K (.ref f39)=true)
 (a40:W.nsIn K mainGlobals "_law_turned_back" = some (some (.ref f40))) (l40:K.lookup f40=some ⟨O40,D40,.func (W.fnOf "_law_turned_back" "_law_turned_back" (Zc ZW) (Zb ZW) (Z3 ZW) .none V40 E40 P40 N40 Q40 T40),S40⟩) (c40:W.codeIn K Q40 "_law_turned_back" = true) (k40:W.keepIn K (.ref f40)=true)
 (a41:W.nsIn K mainGlobals "_law_now" = some (some (.ref f41))) (l41:K.lookup f41=some ⟨O41,D41,.func (W.fnOf "_law_now" "_law_now" (Zc Je) (Zb Je) (Z3 Je) .none V41 E41 P41 N41 Q41 T41),S41⟩) (c41:W.codeIn K Q41 "_law_now" = true) (k41:W.keepIn K (.ref f41)=true)
 (a42:W.nsIn K mainGlobals "_law_next" = some (some (.ref f42))) (l42:K.lookup f42=some ⟨O42,D42,.func (W.fnOf "_law_next" "_law_next" (Zc XA) (Zb XA) (Z3 XA) .none V42 E42 P42 N42 Q42 T42),S42⟩) (c42:W.codeIn K Q42 "_law_next" = true) (k42:W.keepIn K (.ref f42)=true)
 (a43:W.nsIn K mainGlobals "law" = some (some (.ref f43))) (l43:K.lookup f43=some ⟨O43,D43,.func (W.fnOf "law" "law" (Zc Z03) (Zb Z03) (Z3 Z03) .none V43 E43 P43 N43 Q43 T43),S43⟩) (c43:W.codeIn K Q43 "law" = true) (k43:W.keepIn K (.ref f43)=true)
 (a44:W.findIn K (.ref Z8G) "__init__" = some (some (.ref f44))) (l44:K.lookup f44=some ⟨O44,D44,.func (W.fnOf "__init__" "Man.__init__" (Zc YW) (Zb YW) (Z3 YW) .none V44 E44 P44 N44 Q44 T44),S44⟩) (c44:W.codeIn K Q44 "Man.__init__" = true) (k44:W.keepIn K (.ref f44)=true)
 (fn44:W.isFn K (.ref f44)=true)
 (a45:W.findIn K (.ref Z8v) "__init__" = some (some (.ref f45))) (l45:K.lookup f45=some ⟨O45,D45,.func (W.fnOf "__init__" "Muster.__init__" (Zc Y6) (Zb Y6) (Z3 Y6) .none V45 E45 P45 N45 Q45 T45),S45⟩) (c45:W.codeIn K Q45 "Muster.__init__" = true) (k45:W.keepIn K (.ref f45)=true)
 (fn45:W.isFn K (.ref f45)=true)
 (a46:W.findIn K (.ref Z8z) "__init__" = some (some (.ref f46))) (l46:K.lookup f46=some ⟨O46,D46,.func (W.fnOf "__init__" "Page.__init__" (Zc YA) (Zb YA) (Z3 YA) .none V46 E46 P46 N46 Q46 T46),S46⟩) (c46:W.codeIn K Q46 "Page.__init__" = true) (k46:W.keepIn K (.ref f46)=true)
 (fn46:W.isFn K (.ref f46)=true)
 (a47:W.findIn K (.ref Z8s) "__init__" = some (some (.ref f47))) (l47:K.lookup f47=some ⟨O47,D47,.func (W.fnOf "__init__" "Book.__init__" (Zc Yz) (Zb Yz) (Z3 Yz) .none V47 E47 P47 N47 Q47 T47),S47⟩) (c47:W.codeIn K Q47 "Book.__init__" = true) (k47:W.keepIn K (.ref f47)=true)
 (fn47:W.isFn K (.ref f47)=true)
 (a48:W.findIn K (.ref Z8s) "turn_to" = some (some (.ref f48))) (l48:K.lookup f48=some ⟨O48,D48,.func (W.fnOf "turn_to" "Book.turn_to" (Zc ZZ) (Zb ZZ) (Z3 ZZ) .none V48 E48 P48 N48 Q48 T48),S48⟩) (c48:W.codeIn K Q48 "Book.turn_to" = true) (k48:W.keepIn K (.ref f48)=true)
 (fn48:W.isFn K (.ref f48)=true)
 (a49:W.findIn K (.ref Z8s) "undo" = some (some (.ref f49))) (l49:K.lookup f49=some ⟨O49,D49,.func (W.fnOf "undo" "Book.undo" (Zc YE) (Zb YE) (Z3 YE) .none V49 E49 P49 N49 Q49 T49),S49⟩) (c49:W.codeIn K Q49 "Book.undo" = true) (k49:W.keepIn K (.ref f49)=true)
 (fn49:W.isFn K (.ref f49)=true)
 (a50:W.findIn K (.ref Z8s) "redo" = some (some (.ref f50))) (l50:K.lookup f50=some ⟨O50,D50,.func (W.fnOf "redo" "Book.redo" (Zc Ys) (Zb Ys) (Z3 Ys) .none V50 E50 P50 N50 Q50 T50),S50⟩) (c50:W.codeIn K Q50 "Book.redo" = true) (k50:W.keepIn K (.ref f50)=true)
 (fn50:W.isFn K (.ref f50)=true)
 (a51:W.findIn K (.ref Z8s) "side" = some (some (.ref f51))) (l51:K.lookup f51=some ⟨O51,D51,.func (W.fnOf "side" "Book.side" (Zc YG) (Zb YG) (Z3 YG) .none V51 E51 P51 N51 Q51 T51),S51⟩) (c51:W.codeIn K Q51 "Book.side" = true) (k51:W.keepIn K (.ref f51)=true)
 (fn51:W.isFn K (.ref f51)=true)
 (a52:W.findIn K (.ref Z8s) "man" = some (some (.ref f52))) (l52:K.lookup f52=some ⟨O52,D52,.func (W.fnOf "man" "Book.man" (Zc YU) (Zb YU) (Z3 YU) .none V52 E52 P52 N52 Q52 T52),S52⟩) (c52:W.codeIn K Q52 "Book.man" = true) (k52:W.keepIn K (.ref f52)=true)
 (fn52:W.isFn K (.ref f52)=true)
 (a53:W.findIn K (.ref Z8s) "strike" = some (some (.ref f53))) (l53:K.lookup f53=some ⟨O53,D53,.func (W.fnOf "strike" "Book.strike" (Zc Y7) (Zb Y7) (Z3 Y7) .none V53 E53 P53 N53 Q53 T53),S53⟩) (c53:W.codeIn K Q53 "Book.strike" = true) (k53:W.keepIn K (.ref f53)=true)
 (fn53:W.isFn K (.ref f53)=true)
 (a54:W.findIn K (.ref Z8s) "redate" = some (some (.ref f54))) (l54:K.lookup f54=some ⟨O54,D54,.func (W.fnOf "redate" "Book.redate" (Zc Y4) (Zb Y4) (Z3 Y4) .none V54 E54 P54 N54 Q54 T54),S54⟩) (c54:W.codeIn K Q54 "Book.redate" = true) (k54:W.keepIn K (.ref f54)=true)
 (fn54:W.isFn K (.ref f54)=true)
 (a55:W.findIn K (.ref Z8s) "tell" = some (some (.ref f55))) (l55:K.lookup f55=some ⟨O55,D55,.func (W.fnOf "tell" "Book.tell" (Zc YF) (Zb YF) (Z3 YF) .none V55 E55 P55 N55 Q55 T55),S55⟩) (c55:W.codeIn K Q55 "Book.tell" = true) (k55:W.keepIn K (.ref f55)=true)
 (fn55:W.isFn K (.ref f55)=true)
 (a56:W.findIn K (.ref Z8s) "take" = some (some (.ref f56))) (l56:K.lookup f56=some ⟨O56,D56,.func (W.fnOf "take" "Book.take" (Zc Yt) (Zb Yt) (Z3 Yt) .none V56 E56 P56 N56 Q56 T56),S56⟩) (c56:W.codeIn K Q56 "Book.take" = true) (k56:W.keepIn K (.ref f56)=true)
 (fn56:W.isFn K (.ref f56)=true)
 (a57:W.findIn K (.ref Z8s) "word" = some (some (.ref f57))) (l57:K.lookup f57=some ⟨O57,D57,.func (W.fnOf "word" "Book.word" (Zc Yy) (Zb Yy) (Z3 Yy) .none V57 E57 P57 N57 Q57 T57),S57⟩) (c57:W.codeIn K Q57 "Book.word" = true) (k57:W.keepIn K (.ref f57)=true)
 (fn57:W.isFn K (.ref f57)=true)
 (a58:W.findIn K (.ref Z8s) "flee" = some (some (.ref f58))) (l58:K.lookup f58=some ⟨O58,D58,.func (W.fnOf "flee" "Book.flee" (Zc Yu) (Zb Yu) (Z3 Yu) .none V58 E58 P58 N58 Q58 T58),S58⟩) (c58:W.codeIn K Q58 "Book.flee" = true) (k58:W.keepIn K (.ref f58)=true)
 (fn58:W.isFn K (.ref f58)=true)
 (a59:W.findIn K (.ref Z8s) "sides" = some (some (.ref f59))) (l59:K.lookup f59=some ⟨O59,D59,.func (W.fnOf "sides" "Book.sides" (Zc Yi) (Zb Yi) (Z3 Yi) .none V59 E59 P59 N59 Q59 T59),S59⟩) (c59:W.codeIn K Q59 "Book.sides" = true) (k59:W.keepIn K (.ref f59)=true)
 (fn59:W.isFn K (.ref f59)=true)
 (a60:W.findIn K (.ref Z8s) "deeds" = some (some (.ref f60))) (l60:K.lookup f60=some ⟨O60,D60,.func (W.fnOf "deeds" "Book.deeds" (Zc Yg) (Zb Yg) (Z3 Yg) .none V60 E60 P60 N60 Q60 T60),S60⟩) (c60:W.codeIn K Q60 "Book.deeds" = true) (k60:W.keepIn K (.ref f60)=true)
 (fn60:W.isFn K (.ref f60)=true)
 (a61:W.findIn K (.ref Z8s) "upcoming" = some (some (.ref f61))) (l61:K.lookup f61=some ⟨O61,D61,.func (W.fnOf "upcoming" "Book.upcoming" (Zc ZQ) (Zb ZQ) (Z3 ZQ) .none V61 E61 P61 N61 Q61 T61),S61⟩) (c61:W.codeIn K Q61 "Book.upcoming" = true) (k61:W.keepIn K (.ref f61)=true)
 (fn61:W.isFn K (.ref f61)=true)
 (a62:W.findIn K (.ref Z8s) "man_on" = some (some (.ref f62))) (l62:K.lookup f62=some ⟨O62,D62,.func (W.fnOf "man_on" "Book.man_on" (Zc Y5) (Zb Y5) (Z3 Y5) .none V62 E62 P62 N62 Q62 T62),S62⟩) (c62:W.codeIn K Q62 "Book.man_on" = true) (k62:W.keepIn K (.ref f62)=true)
 (fn62:W.isFn K (.ref f62)=true)
 (a63:W.findIn K (.ref Z8s) "stands" = some (some (.ref f63))) (l63:K.lookup f63=some ⟨O63,D63,.func (W.fnOf "stands" "Book.stands" (Zc Y3) (Zb Y3) (Z3 Y3) .none V63 E63 P63 N63 Q63 T63),S63⟩) (c63:W.codeIn K Q63 "Book.stands" = true) (k63:W.keepIn K (.ref f63)=true)
 (fn63:W.isFn K (.ref f63)=true)
 (a64:W.findIn K (.ref Z8s) "words" = some (some (.ref f64))) (l64:K.lookup f64=some ⟨O64,D64,.func (W.fnOf "words" "Book.words" (Zc Yh) (Zb Yh) (Z3 Yh) .none V64 E64 P64 N64 Q64 T64),S64⟩) (c64:W.codeIn K Q64 "Book.words" = true) (k64:W.keepIn K (.ref f64)=true)
 (fn64:W.isFn K (.ref f64)=true)
 (g_MOST_RANKS:W.nsIn K mainGlobals "MOST_RANKS" = some (some (.int 6 tk_MOST_RANKS)))
 (g_LETTERS:W.nsIn K mainGlobals "LETTERS" = some (some (.str "abcdefghijklmnopqrstuvwxyz" tk_LETTERS)))
 (g_MOST_LETTERS:W.nsIn K mainGlobals "MOST_LETTERS" = some (some (.int 8 tk_MOST_LETTERS)))
 (g_MOST_SIDES:W.nsIn K mainGlobals "MOST_SIDES" = some (some (.int 6 tk_MOST_SIDES)))
 (g_MOST_MEN:W.nsIn K mainGlobals "MOST_MEN" = some (some (.int 40 tk_MOST_MEN)))
 (g_MOST_DEEDS:W.nsIn K mainGlobals "MOST_DEEDS" = some (some (.int 120 tk_MOST_DEEDS)))
 (g_LAST_DAY:W.nsIn K mainGlobals "LAST_DAY" = some (some (.int 1000000 tk_LAST_DAY)))
 (g_NO_NUMBER:W.nsIn K mainGlobals "NO_NUMBER" = some (some (.int 0 tk_NO_NUMBER)))
 (z_sorted:W.nsIn K mainGlobals "sorted" = some none)
 (z_abs:W.nsIn K mainGlobals "abs" = some none)
 (z_all:W.nsIn K mainGlobals "all" = some none)
 (z_len:W.nsIn K mainGlobals "len" = some none)
 (z_dict:W.nsIn K mainGlobals "dict" = some none)
 (z_max:W.nsIn K mainGlobals "max" = some none)
 (z_list:W.nsIn K mainGlobals "list" = some none)
 (z_range:W.nsIn K mainGlobals "range" = some none)
 (z_int:W.nsIn K mainGlobals "int" = some none)
 (xc_CartelError:W.excIn K Z8X Z0B "ValueError.__new__" = true)
 (xc_NoStep:W.excIn K Z8Q Z0B "ValueError.__new__" = true)
 (y_cl_Man:Cls K Z8G)
 (y_n_Man_claims:W.findIn K (.ref Z8G) "claims" = some none)
 (y_n_Man_dead:W.findIn K (.ref Z8G) "dead" = some none)
 (y_n_Man_grade:W.findIn K (.ref Z8G) "grade" = some none)
 (y_n_Man_home:W.findIn K (.ref Z8G) "home" = some none)
 (y_mk_Man:Mk K Z8G f44)
 (y_cl_Muster:Cls K Z8v)
 (y_n_Muster_balances:W.findIn K (.ref Z8v) "balances" = some none)
 (y_n_Muster_roster:W.findIn K (.ref Z8v) "roster" = some none)
 (y_n_Muster_treaties:W.findIn K (.ref Z8v) "treaties" = some none)
 (y_mk_Muster:Mk K Z8v f45)
 (y_cl_Page:Cls K Z8z)
 (y_n_Page_cartel_table:W.findIn K (.ref Z8z) "cartel_table" = some none)
 (y_n_Page_deed_list:W.findIn K (.ref Z8z) "deed_list" = some none)
 (y_n_Page_man_table:W.findIn K (.ref Z8z) "man_table" = some none)
 (y_n_Page_next_number:W.findIn K (.ref Z8z) "next_number" = some none)
 (y_n_Page_side_names:W.findIn K (.ref Z8z) "side_names" = some none)
 (y_mk_Page:Mk K Z8z f46)
 (y_cl_Book:Cls K Z8s)
 (y_n_Book_future:W.findIn K (.ref Z8s) "future" = some none)
 (y_n_Book_page:W.findIn K (.ref Z8s) "page" = some none)
 (y_n_Book_past:W.findIn K (.ref Z8s) "past" = some none)
 (y_mk_Book:Mk K Z8s f47)
 (y_f_ns:W.mroIn K Z8Q (.ref Z8Q)=some true)
 (gd_DOINGS:W.nsIn K mainGlobals "DOINGS" = some (some (.ref Z8y)))
 (ld_DOINGS:K.lookup Z8y=some ⟨.type "dict",none,.dict #[⟨PyData.keyHash w.params "take",.str "take" dt0_DOINGS,.ref f6⟩,⟨PyData.keyHash w.params "word",.str "word" dt1_DOINGS,.ref f7⟩,⟨PyData.keyHash w.params "free",.str "free" dt2_DOINGS,.ref f8⟩,⟨PyData.keyHash w.params "flee",.str "flee" dt3_DOINGS,.ref f8⟩,⟨PyData.keyHash w.params "rank",.str "rank" dt4_DOINGS,.ref f9⟩,⟨PyData.keyHash w.params "die",.str "die" dt5_DOINGS,.ref f10⟩,⟨PyData.keyHash w.params "swap",.str "swap" dt6_DOINGS,.ref f11⟩] ep_DOINGS,#[]⟩) :
 ∃ fd:FuncData,(∀ (s:Shared) (v:Value),BindsTo s fd ⟨[v],[]⟩ [("_law_script",v)])∧∀ base:Heap,K.In base→base.Ns mainGlobals mg→FnOk l.prog w K mg base CX0 11 fa fd ["_law_script"] (Z1V K):=by
 have e:=hfa.symm.trans (W.mg_of X G a43);cases e;have F1:=Zf (st:=ZE) l1 c1 k1;have F2:=Zf (st:=Yn) l2 c2 k2;have F3:=Zf (st:=Xk) l3 c3 k3;have F4:=Zf (st:=Ye) l4 c4 k4;have F5:=Zf (st:=YB) l5 c5 k5;have F6:=Zf (st:=YS) l6 c6 k6;have F7:=Zf (st:=ZY) l7 c7 k7;have F8:=Zf (st:=YD) l8 c8 k8;have F9:=Zf (st:=YZ) l9 c9 k9;have F10:=Zf (st:=Xr) l10 c10 k10;have F11:=Zf (st:=Xa) l11 c11 k11;have F12:=Zf (st:=X9) l12 c12 k12;have F13:=Zf (st:=Yc) l13 c13 k13;have F14:=Zf (st:=Yx) l14 c14 k14;have F15:=Zf (st:=Yj) l15 c15 k15;have F16:=Zf (st:=YC) l16 c16 k16;have F17:=Zf (st:=YR) l17 c17 k17;have F18:=Zf (st:=Yr) l18 c18 k18;have F19:=Zf (st:=YT) l19 c19 k19;have F20:=Zf (st:=ZS) l20 c20 k20;have F21:=Zf (st:=Yq) l21 c21 k21;have F22:=Zf (st:=Yb) l22 c22 k22;have F23:=Zf (st:=Yk) l23 c23 k23;have F24:=Zf (st:=Y2) l24 c24 k24;have F25:=Zf (st:=ZX) l25 c25 k25;have F26:=Zf (st:=Yw) l26 c26 k26;have F27:=Zf (st:=ZR) l27 c27 k27;have F28:=Zf (st:=Yf) l28 c28 k28;have F29:=Zf (st:=Yv) l29 c29 k29;have F30:=Zf (st:=YX) l30 c30 k30;have F31:=Zf (st:=Yp) l31 c31 k31;have F32:=Zf (st:=ZM) l32 c32 k32;have F33:=Zf (st:=ZN) l33 c33 k33;have F34:=Zf (st:=XZ) l34 c34 k34;have F35:=Zf (st:=Xl) l35 c35 k35;have F36:=Zf (st:=Xy) l36 c36 k36;have F37:=Zf (st:=X6) l37 c37 k37;have F38:=Zf (st:=Xj) l38 c38 k38;have F39:=Zf (st:=Xz) l39 c39 k39;have F40:=Zf (st:=ZW) l40 c40 k40;have F41:=Zf (st:=Je) l41 c41 k41;have F42:=Zf (st:=XA) l42 c42 k42;have F43:=Zf (st:=Z03) l43 c43 k43;have F44:=Zf (st:=YW) l44 c44 k44;have F45:=Zf (st:=Y6) l45 c45 k45;have F46:=Zf (st:=YA) l46 c46 k46;have F47:=Zf (st:=Yz) l47 c47 k47;have F48:=Zf (st:=ZZ) l48 c48 k48;have F49:=Zf (st:=YE) l49 c49 k49;have F50:=Zf (st:=Ys) l50 c50 k50;have F51:=Zf (st:=YG) l51 c51 k51;have F52:=Zf (st:=YU) l52 c52 k52;have F53:=Zf (st:=Y7) l53 c53 k53;have F54:=Zf (st:=Y4) l54 c54 k54;have F55:=Zf (st:=YF) l55 c55 k55;have F56:=Zf (st:=Yt) l56 c56 k56;have F57:=Zf (st:=Yy) l57 c57 k57;have F58:=Zf (st:=Yu) l58 c58 k58;have F59:=Zf (st:=Yi) l59 c59 k59;have F60:=Zf (st:=Yg) l60 c60 k60;have F61:=Zf (st:=ZQ) l61 c61 k61;have F62:=Zf (st:=Y5) l62 c62 k62;have F63:=Zf (st:=Y3) l63 c63 k63;have F64:=Zf (st:=Yh) l64 c64 k64;have b1:=F1.binds (ps:=["man"]) (by walk_at "1");have b2:=F2.binds (ps:=["man"]) (by walk_at "1");have b3:=F3.binds (ps:=["man"]) (by walk_at "1");have b4:=F4.binds (ps:=["man"]) (by walk_at "1");have b5:=F5.binds (ps:=["man"]) (by walk_at "1");have b6:=F6.binds (ps:=["muster","day","deed"]) (by walk_at "3");have b7:=F7.binds (ps:=["muster","day","deed"]) (by walk_at "3");have b8:=F8.binds (ps:=["muster","day","deed"]) (by walk_at "3");have b9:=F9.binds (ps:=["muster","day","deed"]) (by walk_at "3");have b10:=F10.binds (ps:=["muster","day","deed"]) (by walk_at "3");have b11:=F11.binds (ps:=["muster","day","deed"]) (by walk_at "3");have b12:=F12.binds (ps:=["muster","day","deed"]) (by walk_at "3");have b13:=F13.binds (ps:=["text","signs"]) (by walk_at "2");have b14:=F14.binds (ps:=["text"]) (by walk_at "1");have b15:=F15.binds (ps:=[]) (by walk_at "0");have b16:=F16.binds (ps:=["page","name"]) (by walk_at "2");have b17:=F17.binds (ps:=["page","name"]) (by walk_at "2");have b18:=F18.binds (ps:=["rank"]) (by walk_at "1");have b19:=F19.binds (ps:=["day"]) (by walk_at "1");have b20:=F20.binds (ps:=["name","table"]) (by walk_at "2");have b21:=F21.binds (ps:=["many","most"]) (by walk_at "2");have b22:=F22.binds (ps:=["page","number"]) (by walk_at "2");have b23:=F23.binds (ps:=["page","deed"]) (by walk_at "2");have b24:=F24.binds (ps:=["muster","number","day","deed"]) (by walk_at "4");have b25:=F25.binds (ps:=["page","told"]) (by walk_at "2");have b26:=F26.binds (ps:=["page","last"]) (by walk_at "2");have b27:=F27.binds (ps:=["entry"]) (by walk_at "1");have b28:=F28.binds (ps:=["page","entries","next_number"]) (by walk_at "3");have b29:=F29.binds (ps:=["page","name"]) (by walk_at "2");have b30:=F30.binds (ps:=["page","name","side","rank"]) (by walk_at "4");have b31:=F31.binds (ps:=["page","number","day","deed"]) (by walk_at "4");have b32:=F32.binds (ps:=["page","number"]) (by walk_at "2");have b33:=F33.binds (ps:=["page","number","day"]) (by walk_at "3");have b34:=F34.binds (ps:=["_law_script"]) (by walk_at "1");have b35:=F35.binds (ps:=["_law_number","_law_turn"]) (by walk_at "2");have b36:=F36.binds (ps:=["_law_box_here","_law_size"]) (by walk_at "2");have b37:=F37.binds (ps:=["_law_box_here","_law_alike"]) (by walk_at "2");have b38:=F38.binds (ps:=["_law_box_here","_law_many"]) (by walk_at "2");have b39:=F39.binds (ps:=["_law_box_here"]) (by walk_at "1");have b40:=F40.binds (ps:=["_law_book","_law_word"]) (by walk_at "2");have b41:=F41.binds (ps:=["_law_book","_law_name","_law_day"]) (by walk_at "3");have b42:=F42.binds (ps:=["_law_box_here","_law_book","_law_name","_law_side","_law_day"]) (by walk_at "5");have b43:=F43.binds (ps:=["_law_script"]) (by walk_at "1");have b44:=F44.binds (ps:=["self","home","grade"]) (by walk_at "3");have b45:=F45.binds (ps:=["self","man_table","cartel_table"]) (by walk_at "3");have b46:=F46.binds (ps:=["self","side_names","man_table","cartel_table","deed_list","next_number"]) (by walk_at "6");have b47:=F47.binds (ps:=["self"]) (by walk_at "1");have b48:=F48.binds (ps:=["self","page"]) (by walk_at "2");have b49:=F49.binds (ps:=["self"]) (by walk_at "1");have b50:=F50.binds (ps:=["self"]) (by walk_at "1");have b51:=F51.binds (ps:=["self","name"]) (by walk_at "2");have b52:=F52.binds (ps:=["self","name","side","rank"]) (by walk_at "4");have b53:=F53.binds (ps:=["self","number"]) (by walk_at "2");have b54:=F54.binds (ps:=["self","number","day"]) (by walk_at "3");have b55:=F55.binds (ps:=["self","day","deed"]) (by walk_at "3");have b56:=F56.binds (ps:=["self","day","man","side"]) (by walk_at "4");have b57:=F57.binds (ps:=["self","day","man"]) (by walk_at "3");have b58:=F58.binds (ps:=["self","day","man"]) (by walk_at "3");have b59:=F59.binds (ps:=["self"]) (by walk_at "1");have b60:=F60.binds (ps:=["self"]) (by walk_at "1");have b61:=F61.binds (ps:=["self"]) (by walk_at "1");have b62:=F62.binds (ps:=["self","man","day"]) (by walk_at "3");have b63:=F63.binds (ps:=["self","man","day"]) (by walk_at "3");have b64:=F64.binds (ps:=["self","man","day"]) (by walk_at "3");have T:Txt K mg ⟨f1,f2,f3,f4,f5,f6,f7,f8,f9,f10,f11,f12,f13,f14,f15,f16,f17,f18,f19,f20,f21,f22,f23,f24,f25,f26,f27,f28,f29,f30,f31,f32,f33,f34,f35,f36,f37,f38,f39,f40,f41,f42,fa,f44,f45,f46,f47,f48,f49,f50,f51,f52,f53,f54,f55,f56,f57,f58,f59,f60,f61,f62,f63,f64,_,_,_,_,_,_,_,_,_,_,_,_,_,_,_,_,_,_,_,_,_,_,_,_,_,_,_,_,_,_,_,_,_,_,_,_,_,_,_,_,_,_,_,_,_,_,_,_,_,_,_,_,_,_,_,_,_,_,_,_,_,_,_,_,Z8X,Z8Q,Z8G,Z8v,Z8z,Z8s,Z8y⟩:={
  ZcP:=W.mg_none_of X G z_sorted
  Zg9:=W.mg_none_of X G z_abs
  Zg2:=W.mg_none_of X G z_all
  Z9d:=W.mg_none_of X G z_len
  ZfV:=W.mg_none_of X G z_dict
  ZfZ:=W.mg_none_of X G z_max
  ZeZ:=W.mg_none_of X G z_list
  Zae:=W.mg_none_of X G z_range
  Zg3:=W.mg_none_of X G z_int
  Zdi:=⟨_,W.mg_of X G g_MOST_RANKS⟩
  ZeP:=⟨_,W.mg_of X G g_LETTERS⟩
  ZcB:=⟨_,W.mg_of X G g_MOST_LETTERS⟩
  Zdy:=⟨_,W.mg_of X G g_MOST_SIDES⟩
  Zev:=⟨_,W.mg_of X G g_MOST_MEN⟩
  Zdm:=⟨_,W.mg_of X G g_MOST_DEEDS⟩
  Zep:=⟨_,W.mg_of X G g_LAST_DAY⟩
  Zc3:=⟨_,W.mg_of X G g_NO_NUMBER⟩
  Z9b:=W.mg_of X G a1
  Z92:=F1
  Z99:=b1
  ZeA:=W.mg_of X G a2
  ZcO:=F2
  ZeB:=b2
  Zf2:=W.mg_of X G a3
  Ze9:=F3
  Zf8:=b3
  ZbB:=W.mg_of X G a4
  Z9P:=F4
  Zbv:=b4
  Zcb:=W.mg_of X G a5
  Zao:=F5
  Zc8:=b5
  ZfG:=W.mg_of X G a6
  ZcI:=F6
  ZeC:=b6
  ZeI:=W.mg_of X G a7
  Zaf:=F7
  ZcA:=b7
  Zfu:=W.mg_of X G a8
  Zc2:=F8
  Ze5:=b8
  Zfk:=W.mg_of X G a9
  Zfi:=F9
  Zfs:=b9
  ZfT:=W.mg_of X G a10
  ZfQ:=F10
  ZfU:=b10
  ZfK:=W.mg_of X G a11
  ZfM:=F11
  ZfE:=b11
  ZbK:=W.mg_of X G a12
  Zaz:=F12
  ZbE:=b12
  Ze0:=W.mg_of X G a13
  ZbV:=F13
  ZdY:=b13
  Ze2:=W.mg_of X G a14
  ZbN:=F14
  ZdX:=b14
  Zdd:=W.mg_of X G a15
  Zbs:=F15
  Zdv:=b15
  Zc9:=W.mg_of X G a16
  Zav:=F16
  Zcn:=b16
  ZcH:=W.mg_of X G a17
  ZaY:=F17
  ZcX:=b17
  ZdV:=W.mg_of X G a18
  Zce:=F18
  ZdN:=b18
  ZcN:=W.mg_of X G a19
  ZaX:=F19
  ZcS:=b19
  Z9T:=W.mg_of X G a20
  Z9c:=F20
  Z9U:=b20
  Zan:=W.mg_of X G a21
  Z9p:=F21
  Zaw:=b21
  ZbP:=W.mg_of X G a22
  Zay:=F22
  Zci:=b22
  Zdn:=W.mg_of X G a23
  Zbx:=F23
  Zdq:=b23
  Zd4:=W.mg_of X G a24
  ZaT:=F24
  Zd9:=b24
  Z9l:=W.mg_of X G a25
  Z96:=F25
  Z9k:=b25
  Ze6:=W.mg_of X G a26
  Zc7:=F26
  ZdM:=b26
  ZbH:=W.mg_of X G a27
  ZbL:=F27
  ZbM:=b27
  Z9H:=W.mg_of X G a28
  Z9g:=F28
  Z9R:=b28
  ZdP:=W.mg_of X G a29
  Zcc:=F29
  ZdR:=b29
  Zez:=W.mg_of X G a30
  ZcQ:=F30
  Zex:=b30
  ZdZ:=W.mg_of X G a31
  Zcq:=F31
  Ze1:=b31
  Zcx:=W.mg_of X G a32
  Zaa:=F32
  Zcw:=b32
  ZcD:=W.mg_of X G a33
  Za6:=F33
  ZcC:=b33
  ZfP:=W.mg_of X G a34
  Zfb:=F34
  ZfS:=b34
  Zem:=W.mg_of X G a35
  ZcR:=F35
  Zeh:=b35
  Z8L:=W.mg_of X G a36
  Z8H:=F36
  Z8K:=b36
  ZeX:=W.mg_of X G a37
  Zee:=F37
  ZeY:=b37
  Zec:=W.mg_of X G a38
  ZcW:=F38
  Zei:=b38
  ZfD:=W.mg_of X G a39
  ZeM:=F39
  ZfC:=b39
  Z8U:=W.mg_of X G a40
  Z8M:=F40
  Z8S:=b40
  Zcy:=W.mg_of X G a41
  Zbz:=F41
  Zcz:=b41
  Zfz:=W.mg_of X G a42
  ZeO:=F42
  ZfB:=b42
  Zg8:=W.mg_of X G a43
  Zg0:=F43
  Zg7:=b43
  ZfL:=a44
  Zfl:=fn44
  Zeq:=F44
  Zes:=b44
  ZeU:=a45
  ZeN:=fn45
  Zd3:=F45
  ZaG:=b45
  Zfo:=a46
  Zf0:=fn46
  ZdS:=F46
  Z9q:=b46
  Zfn:=a47
  Zff:=fn47
  Ze4:=F47
  ZdW:=b47
  Z8T:=a48
  Z8P:=fn48
  Z8N:=F48
  Z8R:=b48
  ZdU:=a49
  Zdw:=fn49
  Zct:=F49
  Ze7:=b49
  ZdJ:=a50
  Zdt:=fn50
  Zch:=F50
  ZdI:=b50
  Zc6:=a51
  Zba:=fn51
  Zas:=F51
  Zcl:=b51
  Zew:=a52
  Ze8:=fn52
  ZcZ:=F52
  Zer:=b52
  Zd1:=a53
  ZcE:=fn53
  ZaI:=F53
  Zd0:=b53
  Zd7:=a54
  Zcu:=fn54
  ZaP:=F54
  Zd2:=b54
  Zak:=a55
  Z9K:=fn55
  Z9n:=F55
  Zal:=b55
  ZdK:=a56
  Zdc:=fn56
  Zc0:=F56
  Ze3:=b56
  ZdH:=a57
  Zdo:=fn57
  Zcr:=F57
  ZdO:=b57
  ZdT:=a58
  Zdr:=fn58
  Zco:=F58
  ZdG:=b58
  Zdz:=a59
  Zd5:=fn59
  Zbt:=F59
  Zde:=b59
  Zbb:=a60
  ZaF:=fn60
  Z9I:=F60
  Zb4:=b60
  ZbJ:=a61
  Zbl:=fn61
  Z9Q:=F61
  ZbF:=b61
  ZaQ:=a62
  Za8:=fn62
  Z9v:=F62
  ZaB:=b62
  ZaO:=a63
  Zad:=fn63
  Z9w:=F63
  ZaN:=b63
  Zdf:=a64
  Zd6:=fn64
  ZbC:=F64
  ZdA:=b64
  ZeS:=W.mg_of X G mc_CartelError
  ZeT:=xc_CartelError
  ZcG:=W.mg_of X G mc_NoStep
  Za5:=xc_NoStep
  Zg1:=W.mg_of X G mc_Man
  Zeg:=W.mg_of X G mc_Muster
  Zdx:=W.mg_of X G mc_Page
  ZfR:=W.mg_of X G mc_Book
  Zf9:=W.mg_of X G gd_DOINGS
  Z8V:=y_cl_Man
  Z8J:=y_n_Man_claims
  Zb0:=y_n_Man_dead
  ZdQ:=y_n_Man_grade
  ZcF:=y_n_Man_home
  ZfO:=y_mk_Man
  Z8Z:=y_cl_Muster
  ZaV:=y_n_Muster_balances
  Z8I:=y_n_Muster_roster
  ZaW:=y_n_Muster_treaties
  Zdg:=y_mk_Muster
  Z8u:=y_cl_Page
  Z8D:=y_n_Page_cartel_table
  Z8x:=y_n_Page_deed_list
  Z8B:=y_n_Page_man_table
  Z8A:=y_n_Page_next_number
  Z8C:=y_n_Page_side_names
  Zcv:=y_mk_Page
  Z8t:=y_cl_Book
  Z8W:=y_n_Book_future
  Z8w:=y_n_Book_page
  Z9a:=y_n_Book_past
  ZfA:=y_mk_Book
  ZfW:=y_f_ns
 }
 have TD:DictF w K Z8y [("take",f6),("word",f7),("free",f8),("flee",f8),("rank",f9),("die",f10),("swap",f11)]:=⟨_,_,_,ld_DOINGS,⟨rfl,rfl,rfl⟩,rfl,.cons (.cons (.cons (.cons (.cons (.cons (.cons (.nil))))))),(show List.Nodup (["take","word","free","flee","rank","die","swap"]:List Str) by decide +kernel)⟩;exact⟨_,λs v=>.of_eq rfl,λbase _ _=>Z7K T TD⟩
theorem walk {l:W.OpenLaw}{q:Program}{loose:List Str}{XP:(Str→Option Value)→Heap→Prop}{YP:World→Heap→Prop}{d:DefRec}{K:Params→W.Frag}(hn:l.most=some 63)(hdf:d.params.defaults=[])
 (hY:∀ (w:World) (h:Heap),YP w h→(K w.params).In h)
 (F:∀ (w:World) (mg:Str→Option Value) (fa:Addr) (h:Heap),(K w.params).In h→h.Ns mainGlobals mg→mg d.name=some (.ref fa)→
   ∃ fd:FuncData,(∀ (s:Shared) (u:Value),BindsTo s fd ⟨[u],[]⟩ [("_law_script",u)])∧∀ base:Heap,(K w.params).In base→base.Ns mainGlobals mg→FnOk l.prog w (K w.params) mg base CX0 11 fa fd ["_law_script"] (Z1V (K w.params))) :
 W.WalkO q loose XP YP l.row.toRowW d [] (λf vs=>PySem.call f vs):=
 L2.walk_of (n:=63) (k:=11) (x:="_law_script") (CX:=λ_=>CX0) (sp:=λw=>Z1V (K w.params)) hn (by decide) hdf ⟨rfl,by decide,by decide⟩ hY F (λ_ _ a ns hl _ hS=>⟨a,ns,rfl,hS,hl,λ_=>rfl⟩) λ_ _ _ _ _ z=>z
end My
open PySem PySem.W PyProof.Rows
set_option maxRecDepth 100000 in
set_option maxHeartbeats 0 in
theorem PySem.Challenge.cw_cartelship_k41_whole_long_history_holds : PySem.Challenge.rw_cartelship_k41_whole_long_history.Holds := by
 refine hd ?_
 k_fill
 refine My.walk (l:=PySem.Challenge.rw_cartelship_k41_whole_long_history) rfl rfl (λw h Y=>W.kIn_of Y) ?F
 case F=>
  intro w mg fa h KX G hmg;refine' My.all_mk KX G hmg ?mc_CartelError ?mc_NoStep ?mc_Man ?mc_Muster ?mc_Page ?mc_Book ?a1 ?l1 ?c1 ?k1 ?a2 ?l2 ?c2 ?k2 ?a3 ?l3 ?c3 ?k3 ?a4 ?l4 ?c4 ?k4 ?a5 ?l5 ?c5 ?k5 ?a6 ?l6 ?c6 ?k6 ?a7 ?l7 ?c7 ?k7 ?a8 ?l8 ?c8 ?k8 ?a9 ?l9 ?c9 ?k9 ?a10 ?l10 ?c10 ?k10 ?a11 ?l11 ?c11 ?k11 ?a12 ?l12 ?c12 ?k12 ?a13 ?l13 ?c13 ?k13 ?a14 ?l14 ?c14 ?k14 ?a15 ?l15 ?c15 ?k15 ?a16 ?l16 ?c16 ?k16 ?a17 ?l17 ?c17 ?k17 ?a18 ?l18 ?c18 ?k18 ?a19 ?l19 ?c19 ?k19 ?a20 ?l20 ?c20 ?k20 ?a21 ?l21 ?c21 ?k21 ?a22 ?l22 ?c22 ?k22 ?a23 ?l23 ?c23 ?k23 ?a24 ?l24 ?c24 ?k24 ?a25 ?l25 ?c25 ?k25 ?a26 ?l26 ?c26 ?k26 ?a27 ?l27 ?c27 ?k27 ?a28 ?l28 ?c28 ?k28 ?a29 ?l29 ?c29 ?k29 ?a30 ?l30 ?c30 ?k30 ?a31 ?l31 ?c31 ?k31 ?a32 ?l32 ?c32 ?k32 ?a33 ?l33 ?c33 ?k33 ?a34 ?l34 ?c34 ?k34 ?a35 ?l35 ?c35 ?k35 ?a36 ?l36 ?c36 ?k36 ?a37 ?l37 ?c37 ?k37 ?a38 ?l38 ?c38 ?k38 ?a39 ?l39 ?c39 ?k39 ?a40 ?l40 ?c40 ?k40 ?a41 ?l41 ?c41 ?k41 ?a42 ?l42 ?c42 ?k42 ?a43 ?l43 ?c43 ?k43 ?a44 ?l44 ?c44 ?k44 ?fn44 ?a45 ?l45 ?c45 ?k45 ?fn45 ?a46 ?l46 ?c46 ?k46 ?fn46 ?a47 ?l47 ?c47 ?k47 ?fn47 ?a48 ?l48 ?c48 ?k48 ?fn48 ?a49 ?l49 ?c49 ?k49 ?fn49 ?a50 ?l50 ?c50 ?k50 ?fn50 ?a51 ?l51 ?c51 ?k51 ?fn51 ?a52 ?l52 ?c52 ?k52 ?fn52 ?a53 ?l53 ?c53 ?k53 ?fn53 ?a54 ?l54 ?c54 ?k54 ?fn54 ?a55 ?l55 ?c55 ?k55 ?fn55 ?a56 ?l56 ?c56 ?k56 ?fn56 ?a57 ?l57 ?c57 ?k57 ?fn57 ?a58 ?l58 ?c58 ?k58 ?fn58 ?a59 ?l59 ?c59 ?k59 ?fn59 ?a60 ?l60 ?c60 ?k60 ?fn60 ?a61 ?l61 ?c61 ?k61 ?fn61 ?a62 ?l62 ?c62 ?k62 ?fn62 ?a63 ?l63 ?c63 ?k63 ?fn63 ?a64 ?l64 ?c64 ?k64 ?fn64 ?g_MOST_RANKS ?g_LETTERS ?g_MOST_LETTERS ?g_MOST_SIDES ?g_MOST_MEN ?g_MOST_DEEDS ?g_LAST_DAY ?g_NO_NUMBER ?z_sorted ?z_abs ?z_all ?z_len ?z_dict ?z_max ?z_list ?z_range ?z_int ?xc_CartelError ?xc_NoStep ?y_cl_Man ?y_n_Man_claims ?y_n_Man_dead ?y_n_Man_grade ?y_n_Man_home ?y_mk_Man ?y_cl_Muster ?y_n_Muster_balances ?y_n_Muster_roster ?y_n_Muster_treaties ?y_mk_Muster ?y_cl_Page ?y_n_Page_cartel_table ?y_n_Page_deed_list ?y_n_Page_man_table ?y_n_Page_next_number ?y_n_Page_side_names ?y_mk_Page ?y_cl_Book ?y_n_Book_future ?y_n_Book_page ?y_n_Book_past ?y_mk_Book ?y_f_ns ?gd_DOINGS ?ld_DOINGS
  (case mc_CartelError|mc_NoStep|mc_Man|mc_Muster|mc_Page|mc_Book|a1|l1|c1|k1|a2|l2|c2|k2|a3|l3|c3|k3|a4|l4|c4|k4|a5|l5|c5|k5|a6|l6|c6|k6|a7|l7|c7|k7|a8|l8|c8|k8|a9|l9|c9|k9|a10|l10|c10|k10|a11|l11|c11|k11|a12|l12|c12|k12|a13|l13|c13|k13|a14|l14|c14|k14|a15|l15|c15|k15|a16|l16|c16|k16|a17|l17|c17|k17|a18|l18|c18|k18|a19|l19|c19|k19|a20|l20|c20|k20|a21|l21|c21|k21|a22|l22|c22|k22|a23|l23|c23|k23|a24|l24|c24|k24|a25|l25|c25|k25|a26|l26|c26|k26|a27|l27|c27|k27|a28|l28|c28|k28|a29|l29|c29|k29|a30|l30|c30|k30|a31|l31|c31|k31|a32|l32|c32|k32|a33|l33|c33|k33|a34|l34|c34|k34|a35|l35|c35|k35|a36|l36|c36|k36|a37|l37|c37|k37|a38|l38|c38|k38|a39|l39|c39|k39|a40|l40|c40|k40|a41|l41|c41|k41|a42|l42|c42|k42|a43|l43|c43|k43|a44|l44|c44|k44|fn44|a45|l45|c45|k45|fn45|a46|l46|c46|k46|fn46|a47|l47|c47|k47|fn47|a48|l48|c48|k48|fn48|a49|l49|c49|k49|fn49|a50|l50|c50|k50|fn50|a51|l51|c51|k51|fn51|a52|l52|c52|k52|fn52|a53|l53|c53|k53|fn53|a54|l54|c54|k54|fn54|a55|l55|c55|k55|fn55|a56|l56|c56|k56|fn56|a57|l57|c57|k57|fn57|a58|l58|c58|k58|fn58|a59|l59|c59|k59|fn59|a60|l60|c60|k60|fn60|a61|l61|c61|k61|fn61|a62|l62|c62|k62|fn62|a63|l63|c63|k63|fn63|a64|l64|c64|k64|fn64|g_MOST_RANKS|g_LETTERS|g_MOST_LETTERS|g_MOST_SIDES|g_MOST_MEN|g_MOST_DEEDS|g_LAST_DAY|g_NO_NUMBER|z_sorted|z_abs|z_all|z_len|z_dict|z_max|z_list|z_range|z_int=>k_is)
  (case xc_CartelError|xc_NoStep=>k_exc)
  (case y_cl_Man=>exact⟨by k_is,by k_is,by k_is,by k_is⟩)
  (case y_n_Man_claims|y_n_Man_dead|y_n_Man_grade|y_n_Man_home=>k_is)
  (case y_mk_Man=>exact⟨by k_is,by k_is,by k_is,by k_is⟩)
  (case y_cl_Muster=>exact⟨by k_is,by k_is,by k_is,by k_is⟩)
  (case y_n_Muster_balances|y_n_Muster_roster|y_n_Muster_treaties=>k_is)
  (case y_mk_Muster=>exact⟨by k_is,by k_is,by k_is,by k_is⟩)
  (case y_cl_Page=>exact⟨by k_is,by k_is,by k_is,by k_is⟩)
  (case y_n_Page_cartel_table|y_n_Page_deed_list|y_n_Page_man_table|y_n_Page_next_number|y_n_Page_side_names=>k_is)
  (case y_mk_Page=>exact⟨by k_is,by k_is,by k_is,by k_is⟩)
  (case y_cl_Book=>exact⟨by k_is,by k_is,by k_is,by k_is⟩)
  (case y_n_Book_future|y_n_Book_page|y_n_Book_past=>k_is)
  (case y_mk_Book=>exact⟨by k_is,by k_is,by k_is,by k_is⟩)
  (case y_f_ns|gd_DOINGS|ld_DOINGS=>k_is)
